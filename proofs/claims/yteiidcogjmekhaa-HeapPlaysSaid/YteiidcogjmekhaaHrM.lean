/- Contracts of the document's heap: NewHeap, Grow, Push, Bump, Halve, Len. Conditions: the heap lies in memory as 'RpS' says; the numbers are 64-bit ints, 60 variables at most. -/
import Derived.Test.YteiidcogjmekhaaHpV
import Derived.Deep.LoopGhost
namespace Go.Proofs.Yteiidcogjmekhaa
open Go.RowKit

def RpS (w : World) (v : Value) (S : List Nat) (h : Hp) : Prop := ∃ p a b ca cb, v = .pointer (some ⟨p, 0, none⟩) ∧ S = [p, a, b] ∧ RpAt w p a b ca cb h.ss h.ins ∧ HpW h
theorem RpS.lt {w : World} {v : Value} {S : List Nat} {h : Hp} (hh : RpS w v S h) : ∀ i ∈ S, i < w.heap.size := by
  obtain ⟨p, a, b, ca, cb, _, rfl, h1, _⟩ := hh
  exact h1.lt
theorem RpS.keep {w w' : World} {v : Value} {S R : List Nat} {h : Hp} (hh : RpS w v S h) (hc : Chg R w w') (hd : ∀ i ∈ S, i ∉ R) : RpS w' v S h := by
  obtain ⟨p, a, b, ca, cb, e, rfl, h1, h2⟩ := hh
  exact ⟨p, a, b, ca, cb, e, rfl, h1.keep hc hd, h2⟩
theorem RpS.below {w w' : World} {v : Value} {S : List Nat} {h : Hp} (hh : RpS w v S h) (hb : Below w.heap.size w w') : RpS w' v S h := hh.keep (Chg.of_below (S := []) hb) (by simp)
theorem RpS.wf {w : World} {v : Value} {S : List Nat} {h : Hp} (hh : RpS w v S h) : HpW h := by
  obtain ⟨p, a, b, ca, cb, _, _, _, h1⟩ := hh
  exact h1
def RPost (w : World) (v : Value) (S : List Nat) (h' : Hp) (r : Value) (e : Ending) (w' : World) : Prop := e = .returned r ∧ (∃ S', RpS w' v S' h' ∧ Fresh w S S') ∧ Chg S w w'

theorem chg_appR {w wr w1 : World} {p a0 b0 x : Nat} {u : Value} {o : Nat} (h : Chg [p, a0, b0] w wr) (hc : Chg [x] wr w1) (hx : x = a0 ∨ x = b0 ∨ w.heap.size ≤ x) : Chg [p, a0, b0] w (w1.setCell ⟨p, o, none⟩ u) :=
  (h.trans hc (fun i hi => by
    simp at hi
    subst hi
    rcases hx with rfl | rfl | h
    · exact .inl (by simp)
    · exact .inl (by simp)
    · exact .inr h)).setCell (.inl (by simp)) _

set_option maxRecDepth 8000 in
set_option maxHeartbeats 4000000 in
theorem rgrow_loop {p a0 b0 ca0 cb0 : Nat} {h : Hp} (w : World) (ha : RpAt w p a0 b0 ca0 cb0 h.ss h.ins) (hw : HpW h) (n : Int) (h1 : -9223372036854775808 ≤ n) (h2 : n ≤ 60) :
    Calls Try.prog 19 #[.pointer (some ⟨p, 0, none⟩), .int .i64 n] w (RPost w (.pointer (some ⟨p, 0, none⟩)) [p, a0, b0] (growH h n) (.tuple #[])) := by
  have hpos := hw.pos
  have htop := hw.top
  have HGW : Hid (HpW (growH h n)) := hw.grow _ h2
  have HIL : Hid (h.ins.length = h.ss.length) := hw.len
  by_cases hn0 : n ≤ 0
  · have HQ : Hid (growH h n = h) := by
      unfold Hid growH
      rw [show n.toNat + 1 - h.ss.length = 0 by omega]
      simp
    have HS : Hid (RpS w (.pointer (some ⟨p, 0, none⟩)) [p, a0, b0] h) := ⟨p, a0, b0, ca0, cb0, rfl, rfl, ha, hw⟩
    have c0 := ha.c0
    clear ha hw HGW HIL
    generalize h.ss.length = L at *
    have hd : decide ((L : Int) ≤ 0) = false := decide_eq_false (by omega)
    have hd2 : ¬ (4000 : Int) < 0 := by omega
    have hd3 : (0 : Int) < 4000 := by omega
    rcases (show n < 0 ∨ n = 0 by omega) with hn | rfl
    · have hn2 : ¬ 0 < n := by omega
      clear hn0
      go_enter Try.func19, Try.ntmps19
      go_wp2_with fail
      go_loopg [] 0 (fun gh wr => gh = 0 ∧ wr = w)
      case atStart => exact ⟨rfl, rfl⟩
      case round =>
        obtain ⟨rfl, rfl⟩ := hrel
        go_wp2_with fail
        (try simp only [Exit.inBlock, Exit.then]); refine bodyPost_end (results_none rfl _ _ _) rfl ?_
        exact ⟨rfl, ⟨_, by rw [HQ.out]; exact HS.out, Fresh.refl _ _⟩, Chg.refl _ _⟩
    · clear hn0
      go_enter Try.func19, Try.ntmps19
      go_wp2_with fail
      go_loopg [] 0 (fun gh wr => gh = 0 ∧ wr = w)
      case atStart => exact ⟨rfl, rfl⟩
      case round =>
        obtain ⟨rfl, rfl⟩ := hrel
        go_wp2_with fail
        (try simp only [Exit.inBlock, Exit.then]); refine bodyPost_end (results_none rfl _ _ _) rfl ?_
        exact ⟨rfl, ⟨_, by rw [HQ.out]; exact HS.out, Fresh.refl _ _⟩, Chg.refl _ _⟩
  · obtain ⟨l, rfl⟩ := Int.eq_ofNat_of_zero_le (show 0 ≤ n by omega)
    have HGR : Hid (growH h (l : Int) = ⟨h.ss ++ List.replicate (l + 1 - h.ss.length) 0, h.ins ++ List.replicate (l + 1 - h.ss.length) true⟩) := by
      unfold Hid growH
      rw [Int.toNat_natCast]
    have HA0 : Hid (RpAt w p a0 b0 ca0 cb0 (h.ss ++ List.replicate 0 0) (h.ins ++ List.replicate 0 true)) := by unfold Hid; simpa using ha
    clear ha hw
    generalize hL : h.ss.length = L at *
    have HL := Lib.hid hL
    clear hL
    have k1 : 0 < (l : Int) := by omega
    have k3 : ¬ (l : Int) < 0 := by omega
    have k5 : (l : Int) < 4000 := by omega
    have k6 : ¬ (4000 : Int) < (l : Int) := by omega
    clear hn0
    go_enter Try.func19, Try.ntmps19
    go_wp2_with fail
    go_loopg [] (l + 1 - L) (fun gh wr => ∃ (k : Nat) (a b ca cb : Nat), gh = l + 1 - (L + k) ∧ (L + k ≤ l + 1 ∨ k = 0) ∧ RpAt wr p a b ca cb (h.ss ++ List.replicate k 0) (h.ins ++ List.replicate k true) ∧ (a = a0 ∨ w.heap.size ≤ a) ∧ (b = b0 ∨ w.heap.size ≤ b) ∧ Chg [p, a0, b0] w wr)
    case atStart => exact ⟨0, a0, b0, ca0, cb0, by omega, .inr rfl, HA0.out, .inl rfl, .inl rfl, Chg.refl _ _⟩
    case round =>
      obtain ⟨k, a, b, ca, cb, rfl, hk, hA, ha2, hb2, hC⟩ := hrel
      have HA1 := Lib.hid hA
      have HC1 := Lib.hid hC
      have HA2 := Lib.hid ha2
      have HB2 := Lib.hid hb2
      have hSL : (h.ss ++ List.replicate k (0 : Int)).length = L + k := by rw [List.length_append, List.length_replicate, HL.out]
      have hIL : (h.ins ++ List.replicate k true).length = L + k := by rw [List.length_append, List.length_replicate, HIL.out]
      have HSS := Lib.hid (rep_snoc h.ss k (0 : Int))
      have HII := Lib.hid (rep_snoc h.ins k true)
      have HSLH := Lib.hid hSL
      have HILH := Lib.hid hIL
      have c0 := hA.c0
      have f0 := hA.fr 0
      have hpl := hA.lt p (by simp)
      rw [hSL] at c0
      by_cases hlt : L + k ≤ l
      · have hd1 : decide (((L + k : Nat) : Int) ≤ (l : Int)) = true := decide_eq_true (by omega)
        have hd2 : decide (L + k ≤ l) = true := decide_eq_true (by omega)
        have hd3 : decide ((L : Int) + (k : Int) ≤ (l : Int)) = true := decide_eq_true (by omega)
        have hlk : L + k < 100 := by omega
        clear hA ha2 hb2 hC hSL hIL HA0 hk
        generalize h.ss ++ List.replicate k (0 : Int) = SS at *
        generalize h.ins ++ List.replicate k true = II at *
        generalize hM : L + k = M at *
        have HM := Lib.hid hM
        clear hM
        go_upto_region 3 with (at_builtin; refine wpList_app1 rfl _ _ rfl wr 0 _ M SS 0 (by have := HA1.out.ra; rw [HSLH.out] at this; exact this) (Nat.zero_le _) (by omega) rfl rfl ?_; intro v1 w1 ho1 hap1; obtain ⟨g1, cg1, rfl⟩ := own_at ho1 (by omega); obtain ⟨hX, hg1, hc1⟩ := HA1.out.appScore (g := g1) (c := cg1) (x := 0) (by rw [HSLH.out]; exact hap1) (by rw [HSLH.out]; exact ho1); rw [HSLH.out] at hX; have e0 := (hc1.cell (o := 0) hpl (by simp; exact HA1.out.pa)).trans c0; have e1 := (World.frozen?_of_block (a := ⟨p, 0, none⟩) (hc1.block p hpl (by simp; exact HA1.out.pa))).trans f0; have HX := Lib.hid hX; have HG1 := Lib.hid hg1; have HCC1 := Lib.hid hc1; clear hX hg1 hc1 ho1 hap1)
        have HC2 : Hid (Chg [p, a0, b0] w (w1.setCell ⟨p, 0, none⟩ (.slice (some ⟨g1, 0, none⟩) (M + 1) cg1))) := chg_appR HC1.out HCC1.out (HA2.out.elim .inl (fun h => .inr (.inr h)))
        have HG2 : Hid (g1 = a0 ∨ w.heap.size ≤ g1) := HG1.out.elim (fun e => by rw [e]; exact HA2.out) (fun h => .inr (Nat.le_trans HC1.out.size h))
        clear c0 f0 hpl e0 e1 HC1 HCC1 HG1 HA1
        generalize w1.setCell ⟨p, 0, none⟩ (.slice (some ⟨g1, 0, none⟩) (M + 1) cg1) = w2 at *
        have c1 := HX.out.c1
        have f1 := HX.out.fr 1
        have hpl := HX.out.lt p (by simp)
        rw [HILH.out] at c1
        go_wp2_with (at_builtin; refine wpList_app1G Value.bool 36 4 (.bool false) 1 Try.underlying36 infoBoo rfl (by decide) rfl _ _ rfl w2 0 _ M II true rfl (by have := HX.out.rb; rw [HILH.out] at this; exact this) (Nat.zero_le _) (by omega) rfl rfl ?_; intro v3 w3 ho3 hap3; obtain ⟨g3, cg3, rfl⟩ := own_at ho3 (by omega); obtain ⟨hY, hg3, hc3⟩ := HX.out.appIn (g := g3) (c := cg3) (x := true) (by rw [HILH.out]; exact hap3) (by rw [HILH.out]; exact ho3); rw [HILH.out] at hY; have e0 := (hc3.cell (o := 1) hpl (by simp; exact HX.out.pb)).trans c1; have e1 := (World.frozen?_of_block (a := ⟨p, 1, none⟩) (hc3.block p hpl (by simp; exact HX.out.pb))).trans f1; have HY := Lib.hid hY; have HG3 := Lib.hid hg3; have HCC3 := Lib.hid hc3; clear hY hg3 hc3 ho3 hap3)
        have HC3 : Hid (Chg [p, a0, b0] w (w3.setCell ⟨p, 1, none⟩ (.slice (some ⟨g3, 0, none⟩) (M + 1) cg3))) := chg_appR HC2.out HCC3.out (HB2.out.elim (fun h => .inr (.inl h)) (fun h => .inr (.inr h)))
        have HG4 : Hid (g3 = b0 ∨ w.heap.size ≤ g3) := HG3.out.elim (fun e => by rw [e]; exact HB2.out) (fun h => .inr (Nat.le_trans HC2.out.size h))
        rw [HSS.out, HII.out] at HY
        go_roundg (l + 1 - (L + (k + 1)))
        case measure => have := HM.out; omega
        case rel => exact ⟨k + 1, _, _, _, _, rfl, .inl (by have := HM.out; omega), HY.out, HG2.out, HG4.out, HC3.out⟩
      · have hke : l + 1 - L = k := by omega
        have hd1 : decide (((L + k : Nat) : Int) ≤ (l : Int)) = false := decide_eq_false (by omega)
        have hd2 : decide (L + k ≤ l) = false := decide_eq_false (by omega)
        have hd3 : decide ((L : Int) + (k : Int) ≤ (l : Int)) = false := decide_eq_false (by omega)
        have HKE := Lib.hid hke
        have hlk : L + k < 200 := by omega
        clear hke hlt hA ha2 hb2 hC
        go_wp2_with fail
        (try simp only [Exit.inBlock, Exit.then]); refine bodyPost_end (results_none rfl _ _ _) rfl ?_
        have hg := HGR.out
        rw [HKE.out] at hg
        refine ⟨rfl, ⟨[p, a, b], ⟨p, a, b, ca, cb, rfl, rfl, by rw [hg]; exact HA1.out, HGW.out⟩, fun i hi => ?_⟩, HC1.out⟩
        simp only [List.mem_cons, List.not_mem_nil, or_false] at hi
        rcases hi with rfl | rfl | rfl
        · exact .inl (by simp)
        · exact HA2.out.elim (fun e => .inl (by simp [e])) .inr
        · exact HB2.out.elim (fun e => .inl (by simp [e])) .inr

theorem rgrow_any {v : Value} {S : List Nat} {h : Hp} (w : World) (hs : RpS w v S h) (n : Int) (h1 : -9223372036854775808 ≤ n) (h2 : n ≤ 60) :
    Calls Try.prog 19 #[v, .int .i64 n] w (RPost w v S (growH h n) (.tuple #[])) := by
  obtain ⟨p, a, b, ca, cb, rfl, rfl, ha, hw⟩ := hs
  exact rgrow_loop w ha hw n h1 h2

/-! ### NewHeap -/
def V3 (w : World) : World := (W2 w).alloc (.cells #[.slice (some ⟨w.heap.size, 0, none⟩) 1 1, .slice (some ⟨w.heap.size + 1, 0, none⟩) 1 1] 38)
theorem v3_below (w : World) : Below w.heap.size w (V3 w) := (((Below.refl _ _).alloc (Nat.le_refl _) _).alloc (by simp) _).alloc (by simp; omega) _
theorem v3_at (w : World) : RpAt (V3 w) (w.heap.size + 1 + 1) w.heap.size (w.heap.size + 1) 1 1 [0] [false] := by
  have z1 : (W1 w).heap.size = w.heap.size + 1 := by simp [W1]
  have z2' : (W2 w).heap.size = w.heap.size + 1 + 1 := by simp [W2, z1]
  have n1 := heap_alloc_new w (.cells #[.int .i64 0] 3)
  have n2 := heap_alloc_new (W1 w) (.cells #[.bool false] 4)
  have n3 := heap_alloc_new (W2 w) (.cells #[.slice (some ⟨w.heap.size, 0, none⟩) 1 1, .slice (some ⟨w.heap.size + 1, 0, none⟩) 1 1] 38)
  rw [z1] at n2
  rw [z2'] at n3
  have n3' : (V3 w).heap[w.heap.size + 1 + 1]? = _ := n3
  have b2 : Below (w.heap.size + 1 + 1) (W2 w) (V3 w) := (Below.refl _ _).alloc (by rw [z2']; exact Nat.le_refl _) _
  have b1 : Below (w.heap.size + 1) (W1 w) (V3 w) := ((Below.refl _ _).alloc (by rw [z1]; exact Nat.le_refl _) _).trans (b2.mono (by omega))
  have r1 : (W1 w).ownsRow 0 3 1 (.slice (some ⟨w.heap.size, 0, none⟩) 1 1) 1 [.int .i64 0] := ⟨rfl, .inr ⟨_, _, _, rfl, Nat.zero_le _, n1, Nat.le_refl _, by unfold maxLen; omega, rfl, rfl⟩⟩
  have r2 : (W2 w).ownsRow 0 4 1 (.slice (some ⟨w.heap.size + 1, 0, none⟩) 1 1) 1 [.bool false] := ⟨rfl, .inr ⟨_, _, _, rfl, Nat.zero_le _, n2, Nat.le_refl _, by unfold maxLen; omega, rfl, rfl⟩⟩
  exact { c0 := by rw [cell_of_row _ _ 0 _ 38 (0, 0) n3']; rfl
          c1 := by rw [cell_of_row _ _ 1 _ 38 (0, 0) n3']; rfl
          fr := fun i => by simp only [World.frozen?, n3']; simp
          ra := own_keep r1 (by rw [z1]; exact b1)
          rb := own_keep r2 (by rw [z2']; exact b2)
          pa := by omega, pb := by omega, ab := by omega }

set_option maxRecDepth 8000 in
set_option maxHeartbeats 2000000 in
theorem rnew_any (w : World) (n : Int) (h1 : -9223372036854775808 ≤ n) (h2 : n ≤ 60) :
    Calls Try.prog 8 #[.int .i64 n] w fun e w' => ∃ v S, e = .returned v ∧ RpS w' v S (newH n) ∧ (∀ i ∈ S, w.heap.size ≤ i) ∧ Below w.heap.size w w' := by
  have HS : Hid (RpS (V3 w) (.pointer (some ⟨w.heap.size + 1 + 1, 0, none⟩)) [w.heap.size + 1 + 1, w.heap.size, w.heap.size + 1] ⟨[0], [false]⟩) := ⟨_, _, _, 1, 1, rfl, rfl, v3_at w, hpw_one⟩
  have HB := Lib.hid (v3_below w)
  have HG := Lib.hid (rgrow_any (V3 w) HS.out n h1 h2)
  have HW4 : Hid ((((w.alloc (.cells #[.int .i64 0] 3)).alloc (.cells #[.bool false] 4)).alloc (.cells #[.slice (some ⟨w.heap.size, 0, none⟩) 1 1, .slice (some ⟨w.heap.size + 1, 0, none⟩) 1 1] 38)) = V3 w) := rfl
  go_enter Try.func8, Try.ntmps8
  go_wp2_with fail
  rw [HW4.out]
  refine HG.out.mono ?_
  rintro e w' hp
  have HP := Lib.hid hp
  have he := hp.1
  subst he
  clear hp HG
  go_wp2_with fail
  go_ret
  obtain ⟨_, ⟨S', hS, hF⟩, hC⟩ := HP.out
  have hge : ∀ i ∈ [w.heap.size + 1 + 1, w.heap.size, w.heap.size + 1], w.heap.size ≤ i := by simp; omega
  refine ⟨_, S', rfl, hS, fun i hi => ?_, hC.below HB.out HB.out.size hge⟩
  exact (hF i hi).elim (hge i) (fun h => Nat.le_trans HB.out.size h)

/-! ### Push, Bump, Halve, Len -/
set_option maxRecDepth 8000 in
set_option maxHeartbeats 2000000 in
theorem rpush_any {v : Value} {S : List Nat} {h : Hp} (w : World) (hs : RpS w v S h) (x : Int) (_h1 : -9223372036854775808 ≤ x) (_h2 : x ≤ 9223372036854775807) :
    Calls Try.prog 10 #[v, .int .i64 x] w (RPost w v S (pushH h x) (.bool (pushOk h x))) := by
  have HS := Lib.hid hs
  obtain ⟨p, a, b, ca, cb, rfl, rfl, ha, hw⟩ := hs
  have HI := Lib.hid (ris_any (n := h.ss.length) x w ha.c0)
  have c1 := ha.c1
  rw [hw.len] at c1
  have HP : Hid (pushOk h x = (isN h.ss.length x && !h.ins.getD x.toNat false)) := rfl
  cases hi : isN h.ss.length x with
  | false =>
    rw [hi] at HI HP
    have HQ : Hid (pushH h x = h) := by unfold Hid pushH; rw [HP.out]; rfl
    clear ha hw
    go_enter Try.func10, Try.ntmps10
    go_wp2_with (go_at_call 26; refine HI.out.mono ?_; rintro e w' ⟨rfl, rfl⟩)
    go_ret
    exact ⟨ret_bool (by rw [HP.out]; rfl), ⟨_, by rw [HQ.out]; exact HS.out, Fresh.refl _ _⟩, Chg.refl _ _⟩
  | true =>
    rw [hi] at HI HP
    rw [isN_iff] at hi
    obtain ⟨k, rfl⟩ := Int.eq_ofNat_of_zero_le (show 0 ≤ x by omega)
    obtain ⟨k1, k2⟩ := hi
    rw [Int.toNat_natCast] at HP
    have hki : k < h.ins.length := by rw [hw.len]; omega
    have x0 := ha.isin hki
    have f0 := own_frozen ha.rb k
    cases hb : h.ins.getD k false with
    | true =>
      rw [hb] at x0 HP
      have HQ : Hid (pushH h (k : Int) = h) := by unfold Hid pushH; rw [HP.out]; rfl
      clear ha hw hb f0
      generalize h.ss.length = n at *
      go_enter Try.func10, Try.ntmps10
      go_wp2_with (go_at_call 26; refine HI.out.mono ?_; rintro e w' ⟨rfl, rfl⟩)
      go_ret
      exact ⟨ret_bool (by rw [HP.out]; rfl), ⟨_, by rw [HQ.out]; exact HS.out, Fresh.refl _ _⟩, Chg.refl _ _⟩
    | false =>
      rw [hb] at x0 HP
      have HQ : Hid (pushH h (k : Int) = ⟨h.ss, h.ins.set k true⟩) := by unfold Hid pushH; rw [HP.out]; rfl
      have HA1 := Lib.hid (ha.setIn k true hki)
      have HW := Lib.hid (hw.push (k : Int))
      clear ha hw hb
      generalize h.ss.length = n at *
      go_enter Try.func10, Try.ntmps10
      go_wp2_with (go_at_call 26; refine HI.out.mono ?_; rintro e w' ⟨rfl, rfl⟩)
      go_ret
      exact ⟨ret_bool (by rw [HP.out]; rfl), ⟨_, ⟨p, a, b, ca, cb, rfl, rfl, by rw [HQ.out]; exact HA1.out, HW.out⟩, Fresh.refl _ _⟩, (Chg.refl _ _).setCell (.inl (by simp)) _⟩

set_option maxRecDepth 8000 in
set_option maxHeartbeats 2000000 in
theorem rbump_any {v : Value} {S : List Nat} {h : Hp} (w : World) (hs : RpS w v S h) (x y : Int) (h1 : -9223372036854775808 ≤ y) (h2 : y ≤ 9223372036854775807) :
    Calls Try.prog 14 #[v, .int .i64 x, .int .i64 y] w (RPost w v S (bumpH h x y) (.int .i64 (bumpA h x y))) := by
  have HS := Lib.hid hs
  obtain ⟨p, a, b, ca, cb, rfl, rfl, ha, hw⟩ := hs
  have HI := Lib.hid (ris_any (n := h.ss.length) x w ha.c0)
  have c0 := ha.c0
  cases hi : isN h.ss.length x with
  | false =>
    have hi' : isH h x = false := hi
    rw [hi] at HI
    have HQ : Hid (bumpH h x y = h) := by unfold Hid bumpH; rw [hi']; rfl
    have HV : Hid (bumpA h x y = 0) := by unfold Hid bumpA; rw [hi']; rfl
    clear ha hw hi hi'
    go_enter Try.func14, Try.ntmps14
    go_wp2_with (go_at_call 26; refine HI.out.mono ?_; rintro e w' ⟨rfl, rfl⟩)
    go_ret
    exact ⟨ret_int (by rw [HV.out]), ⟨_, by rw [HQ.out]; exact HS.out, Fresh.refl _ _⟩, Chg.refl _ _⟩
  | true =>
    have hi' : isH h x = true := hi
    rw [hi] at HI
    rw [isN_iff] at hi
    obtain ⟨k, rfl⟩ := Int.eq_ofNat_of_zero_le (show 0 ≤ x by omega)
    obtain ⟨k1, k2⟩ := hi
    have HQ : Hid (bumpH h (k : Int) y = ⟨h.ss.set k (bumpI (h.ss.getD k 0) y), h.ins⟩) := by unfold Hid bumpH; rw [hi']; rfl
    have HV : Hid (bumpA h (k : Int) y = bumpI (h.ss.getD k 0) y) := by unfold Hid bumpA; rw [hi']; rfl
    have hkl : k < h.ss.length := by omega
    have x0 := ha.score hkl
    have f0 := own_frozen ha.ra k
    have hsb := hw.bd k
    have HW := Lib.hid (hw.bump (k : Int) y)
    have HA1 := Lib.hid (ha.setScore k (bumpI (h.ss.getD k 0) y) hkl)
    have hn := hw.top
    have hbi : bumpI (h.ss.getD k 0) y = max 0 (min (h.ss.getD k 0 + y) 1099511627776) := rfl
    have k0 : (0 : Int) ≤ (k : Int) := by omega
    have hc0 := HA1.out.c0
    have x1 := HA1.out.score (i := k) (by simpa using hkl)
    rw [List.length_set] at hc0
    rw [getD_setI, if_pos ⟨rfl, hkl⟩] at x1
    clear ha hw hi' HS
    generalize bumpI (h.ss.getD k 0) y = z at *
    generalize h.ss.getD k 0 = s at *
    generalize h.ss.length = n at *
    obtain ⟨s1, s2⟩ := hsb
    by_cases hgt : 1099511627776 - s < y
    · have hz : z = 1099511627776 := by omega
      subst hz
      have hd : decide (1099511627776 - s < y) = true := decide_eq_true hgt
      clear hbi hgt
      go_enter Try.func14, Try.ntmps14
      go_wp2_with (go_at_call 26; refine HI.out.mono ?_; rintro e w' ⟨rfl, rfl⟩)
      go_ret
      exact ⟨ret_int (by rw [HV.out]), ⟨_, ⟨p, a, b, ca, cb, rfl, rfl, by rw [HQ.out]; exact HA1.out, HW.out⟩, Fresh.refl _ _⟩, (Chg.refl _ _).setCell (.inl (by simp)) _⟩
    · have hd : decide (1099511627776 - s < y) = false := decide_eq_false hgt
      have hz : z = max (s + y) 0 := by omega
      have w1 : IntKind.i64.wrap (s + y) = s + y := IntWalk.i64_in _ (by omega)
      clear hbi hgt
      rcases (show (s + y < 0 ∧ ¬ 0 < s + y ∧ z = 0) ∨ (0 < s + y ∧ ¬ s + y < 0 ∧ z = s + y) ∨ (s + y = 0 ∧ z = 0) by omega) with ⟨m1, m2, hz2⟩ | ⟨m1, m2, hz2⟩ | ⟨m1, hz2⟩
      · subst hz2
        clear hz
        go_enter Try.func14, Try.ntmps14
        go_wp2_with (go_at_call 26; refine HI.out.mono ?_; rintro e w' ⟨rfl, rfl⟩)
        go_region
        all_goals
          go_wp2_with fail
          go_ret
          exact ⟨ret_int (by rw [HV.out]), ⟨_, ⟨p, a, b, ca, cb, rfl, rfl, by rw [HQ.out]; exact HA1.out.below (Below.refl _ _).drew, HW.out⟩, Fresh.refl _ _⟩, ((Chg.refl _ _).setCell (.inl (by simp)) _).drew⟩
      · subst hz2
        clear hz
        go_enter Try.func14, Try.ntmps14
        go_wp2_with (go_at_call 26; refine HI.out.mono ?_; rintro e w' ⟨rfl, rfl⟩)
        go_region
        all_goals
          go_wp2_with fail
          go_ret
          exact ⟨ret_int (by rw [HV.out]), ⟨_, ⟨p, a, b, ca, cb, rfl, rfl, by rw [HQ.out]; exact HA1.out.below (Below.refl _ _).drew, HW.out⟩, Fresh.refl _ _⟩, ((Chg.refl _ _).setCell (.inl (by simp)) _).drew⟩
      · obtain rfl : z = s + y := by omega
        obtain rfl : y = -s := by omega
        clear hz m1 hz2
        go_enter Try.func14, Try.ntmps14
        go_wp2_with (go_at_call 26; refine HI.out.mono ?_; rintro e w' ⟨rfl, rfl⟩)
        go_region
        all_goals
          go_wp2_with fail
          go_ret
          exact ⟨ret_int (by rw [HV.out]), ⟨_, ⟨p, a, b, ca, cb, rfl, rfl, by rw [HQ.out]; exact HA1.out.below (Below.refl _ _).drew, HW.out⟩, Fresh.refl _ _⟩, ((Chg.refl _ _).setCell (.inl (by simp)) _).drew⟩

set_option maxRecDepth 8000 in
set_option maxHeartbeats 2000000 in
theorem rhalve_any {v : Value} {S : List Nat} {h : Hp} (w : World) (hs : RpS w v S h) :
    Calls Try.prog 16 #[v] w (RPost w v S (halveH h) (.tuple #[])) := by
  obtain ⟨p, a, b, ca, cb, rfl, rfl, ha, hw⟩ := hs
  have HA : Hid (RpAt w p a b ca cb (halfK h.ss 1) h.ins) := by unfold Hid; rw [halfK_one _ hw.s0]; exact ha
  have HWF := Lib.hid hw
  have HBD := Lib.hid hw.bd
  have hn := hw.top
  have hpos := hw.pos
  generalize hN : h.ss.length = n at *
  have HN := Lib.hid hN
  clear ha hw hN
  go_enter Try.func16, Try.ntmps16
  go_wp2_with fail
  go_loopw [2] (fun i wr => ∃ k : Nat, 1 ≤ k ∧ k ≤ n ∧ i = .int .i64 (k : Int) ∧ RpAt wr p a b ca cb (halfK h.ss k) h.ins ∧ Chg [p, a, b] w wr) (fun i _ => n - (intOf i).toNat)
  case atStart => exact ⟨1, Nat.le_refl _, hpos, rfl, HA.out, Chg.refl _ _⟩
  case round =>
    obtain ⟨k, hk1, hk, rfl, h3, hc⟩ := hrel
    have HC := Lib.hid hc
    have H3 := Lib.hid h3
    have c0 := h3.c0
    rw [halfK_len, HN.out] at c0
    clear HA hc
    by_cases hlt : k < n
    · have x0 := h3.score (i := k) (by rw [halfK_len, HN.out]; exact hlt)
      rw [halfK_get] at x0
      have f0 := own_frozen h3.ra k
      have h4 := h3.setScore k (h.ss.getD k 0 / 2) (by rw [halfK_len, HN.out]; exact hlt)
      rw [halfK_set _ _ (by rw [HN.out]; exact hlt)] at h4
      have H4 := Lib.hid h4
      obtain ⟨s1, s2⟩ := HBD.out k
      have k0 : (0 : Int) ≤ (k : Int) := by omega
      have hlt2 : (k : Int) < (n : Int) := by omega
      clear h3 h4 H3
      generalize h.ss.getD k 0 = s at *
      go_wp2_with fail
      go_region
      all_goals
        go_wp2_with fail
        go_roundw
        case rel => exact ⟨k + 1, by omega, by omega, by go_num, H4.out.below (Below.refl _ _).drew, (HC.out.setCell (.inl (by simp)) _).drew⟩
        case measure => go_light; simp [intOf]; omega
    · have hkn : k = n := by omega
      have hA := h3
      rw [hkn, ← HN.out, halfK_all] at hA
      have HA2 := Lib.hid hA
      have HW2 := Lib.hid HWF.out.halve
      have hdd : decide ((k : Int) < (n : Int)) = false := decide_eq_false (by omega)
      have hdd2 : decide (k < n) = false := decide_eq_false (by omega)
      clear h3 hA hkn H3
      go_wp2_with fail
      (try simp only [Exit.inBlock, Exit.then]); refine bodyPost_end (results_none rfl _ _ _) rfl ?_
      exact ⟨rfl, ⟨_, ⟨p, a, b, ca, cb, rfl, rfl, HA2.out, HW2.out⟩, Fresh.refl _ _⟩, HC.out⟩

theorem count_take (l : List Bool) (k : Nat) (h : k < l.length) : (l.take (k + 1)).count true = (l.take k).count true + (if l.getD k false = true then 1 else 0) := by
  rw [List.take_succ_eq_append_getElem h, List.count_append]
  congr 1
  have : l.getD k false = l[k] := by simp [List.getD, h]
  rw [this]
  cases l[k] <;> rfl

set_option maxRecDepth 8000 in
set_option maxHeartbeats 2000000 in
theorem rlen_any {v : Value} {S : List Nat} {h : Hp} (w : World) (hs : RpS w v S h) :
    Calls Try.prog 21 #[v] w fun e w' => e = .returned (.int .i64 ((manyH h : Nat) : Int)) ∧ w' = w := by
  obtain ⟨p, a, b, ca, cb, rfl, rfl, ha, hw⟩ := hs
  have HA := Lib.hid ha
  have c0 := ha.c0
  have c1 := ha.c1
  rw [hw.len] at c1
  have hn := hw.top
  have hpos := hw.pos
  have HCT := Lib.hid (fun k hk => count_take h.ins k hk)
  have HC1 : Hid ((h.ins.take 1).count true = 0) := by
    have h1 := count_take h.ins 0 (by rw [hw.len]; exact hw.pos)
    rw [hw.i0] at h1
    unfold Hid
    simpa using h1
  have HCN : Hid ((h.ins.take h.ss.length).count true = manyH h) := by unfold Hid manyH; rw [← hw.len, List.take_length]
  have HL := Lib.hid hw.len
  generalize manyH h = M at *
  generalize hN : h.ss.length = n at *
  have HN := Lib.hid hN
  clear ha hw hN
  go_enter Try.func21, Try.ntmps21
  go_wp2_with fail
  go_loop [3, 4] (fun m i => ∃ k c : Nat, 1 ≤ k ∧ k ≤ n ∧ c ≤ k ∧ i = .int .i64 (k : Int) ∧ m = .int .i64 (c : Int) ∧ Hid ((h.ins.take k).count true = c)) (fun _ i => n - (intOf i).toNat)
  case atStart => exact ⟨1, 0, Nat.le_refl _, hpos, by omega, rfl, rfl, HC1.out⟩
  case round =>
    obtain ⟨k, c, hk1, hk, hck, rfl, rfl, hc⟩ := hrel
    by_cases hlt : k < n
    · have x0 := HA.out.isin (i := k) (by rw [HL.out]; exact hlt)
      have HS := Lib.hid (HCT.out k (by rw [HL.out]; exact hlt))
      cases hb : h.ins.getD k false with
      | true =>
        rw [hb] at x0 HS
        have HS2 : Hid ((h.ins.take (k + 1)).count true = c + 1) := by unfold Hid; rw [HS.out, hc.out]; rfl
        clear hb HS hc
        go_wp2_with fail
        go_round
        case rel => exact ⟨k + 1, c + 1, by omega, by omega, by omega, by go_num, by go_num, HS2.out⟩
        case measure => go_light; simp [intOf]; omega
      | false =>
        rw [hb] at x0 HS
        have HS2 : Hid ((h.ins.take (k + 1)).count true = c) := by unfold Hid; rw [HS.out, hc.out]; rfl
        clear hb HS hc
        go_wp2_with fail
        go_round
        case rel => exact ⟨k + 1, c, by omega, by omega, by omega, by go_num, rfl, HS2.out⟩
        case measure => go_light; simp [intOf]; omega
    · have hkn : k = n := by omega
      have HE : Hid (c = M) := by unfold Hid; rw [← hc.out, hkn, HCN.out]
      have hdd : decide ((k : Int) < (n : Int)) = false := decide_eq_false (by omega)
      have hdd2 : decide (k < n) = false := decide_eq_false (by omega)
      clear hkn hc
      go_wp2_with fail
      go_ret
      exact ⟨ret_int (by rw [HE.out]), rfl⟩
end Go.Proofs.Yteiidcogjmekhaa
