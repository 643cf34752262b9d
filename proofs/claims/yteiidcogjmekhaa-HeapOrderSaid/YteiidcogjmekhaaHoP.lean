/- For HeapOrder: what holds of the scores, of who is in, of what has been seen; a heap beside a row of the call's own. No conditions beyond those typed. -/
import Derived.Test.YteiidcogjmekhaaHpF
import Derived.Test.YteiidcogjmekhaaHrP
namespace Go.Proofs.Yteiidcogjmekhaa
open Go.RowKit

theorem and63 (x : Int) : 0 ≤ bits .and .i64 x 63 ∧ bits .and .i64 x 63 ≤ 63 := by
  have e : bits .and .i64 x 63 = IntKind.i64.wrap (((BitVec.ofInt 64 x) &&& (BitVec.ofInt 64 63)).toNat : Int) := rfl
  have h : ((BitVec.ofInt 64 x) &&& (BitVec.ofInt 64 63)).toNat < 2 ^ 6 := by
    rw [BitVec.toNat_and]
    exact Nat.and_lt_two_pow _ (by decide)
  rw [e, IntWalk.i64_in _ (by omega)]
  omega

/-- The first i scores are told. -/
structure OrA (sc : List Int) (h : Hp) (i : Nat) : Prop where
  ls : h.ss.length = sc.length + 1
  li : h.ins.length = sc.length + 1
  sv : ∀ u, h.ss.getD u 0 = if 1 ≤ u ∧ u ≤ i then sc.getD (u - 1) 0 % 9 else 0
  iv : ∀ u, h.ins.getD u false = decide (1 ≤ u ∧ u ≤ sc.length)
  mc : manyH h = sc.length
theorem OrA.new (sc : List Int) : OrA sc (newH (sc.length : Int)) 0 := by
  have o := One.new sc.length 0
  refine ⟨o.ls, o.li, fun u => ?_, fun u => ?_, ?_⟩
  · rw [o.sc, if_neg (show ¬ (1 ≤ u ∧ u ≤ 0) by omega)]
    split <;> rfl
  · rw [o.ic]; simp
  · have := o.mc; simpa using this
theorem OrA.step {sc : List Int} {h : Hp} {i : Nat} (o : OrA sc h i) (hi : i < sc.length) : bumpA h ((i : Int) + 1) (sc.getD i 0 % 9) = sc.getD i 0 % 9 ∧ OrA sc (bumpH h ((i : Int) + 1) (sc.getD i 0 % 9)) (i + 1) := by
  have hs : isH h ((i : Int) + 1) = true := by rw [isH_iff, o.ls]; omega
  have ht : ((i : Int) + 1).toNat = i + 1 := by omega
  have h0 : h.ss.getD (i + 1) 0 = 0 := by rw [o.sv, if_neg (by omega)]
  have hm1 := Int.emod_nonneg (sc.getD i 0) (show (9 : Int) ≠ 0 by decide)
  have hm2 := Int.emod_lt_of_pos (sc.getD i 0) (show (0 : Int) < 9 by decide)
  have hb : bumpI 0 (sc.getD i 0 % 9) = sc.getD i 0 % 9 := by unfold bumpI; omega
  unfold bumpA bumpH
  rw [if_pos hs, if_pos hs, ht, h0, hb]
  refine ⟨rfl, by simpa using o.ls, o.li, fun u => ?_, o.iv, o.mc⟩
  show (h.ss.set (i + 1) _).getD u 0 = _
  rw [getD_setI, o.ls]
  by_cases e : i + 1 = u
  · subst e
    rw [if_pos ⟨rfl, by omega⟩, if_pos (by omega)]
    simp
  · rw [if_neg (fun hh => e hh.1), o.sv]
    by_cases e2 : 1 ≤ u ∧ u ≤ i
    · rw [if_pos e2, if_pos (by omega)]
    · rw [if_neg e2, if_neg (by omega)]
/-- j are popped; none that is in has a score above 'last'. -/
structure OrB (sc : List Int) (h : Hp) (sn : List Bool) (j : Nat) (last : Int) : Prop where
  ls : h.ss.length = sc.length + 1
  li : h.ins.length = sc.length + 1
  sv : ∀ u, 1 ≤ u → u ≤ sc.length → h.ss.getD u 0 = sc.getD (u - 1) 0 % 9
  sl : sn.length = sc.length + 1
  iv : ∀ u, 1 ≤ u → u ≤ sc.length → sn.getD u false = !h.ins.getD u false
  mc : manyH h + j = sc.length
  le : ∀ u, h.ins.getD u false = true → h.ss.getD u 0 ≤ last
theorem getD_repB (k i : Nat) : (List.replicate k false).getD i false = false := by
  simp only [List.getD, List.getElem?_replicate]
  split <;> rfl
theorem OrA.done {sc : List Int} {h : Hp} (o : OrA sc h sc.length) : OrB sc h (List.replicate (sc.length + 1) false) 0 9 where
  ls := o.ls
  li := o.li
  sv := fun u h1 h2 => by rw [o.sv, if_pos ⟨h1, h2⟩]
  sl := by simp
  iv := fun u h1 h2 => by rw [getD_repB, o.iv, decide_eq_true ⟨h1, h2⟩]; rfl
  mc := o.mc
  le := fun u _ => by
    rw [o.sv]
    split
    · have := Int.emod_lt_of_pos (sc.getD (u - 1) 0) (show (0 : Int) < 9 by decide); omega
    · decide
theorem OrB.some {sc : List Int} {h : Hp} {sn : List Bool} {j : Nat} {last : Int} (o : OrB sc h sn j last) (hw : HpW h) (hj : j < sc.length) : bestL h ≠ [] := by
  intro e
  have h1 := count_zero.2 ((best_emp hw).1 e)
  have h2 := o.mc
  unfold manyH at h2
  omega
theorem OrB.none {sc : List Int} {h : Hp} {sn : List Bool} {last : Int} (o : OrB sc h sn sc.length last) (hw : HpW h) : bestL h = [] ∧ manyH h = 0 := by
  have h2 := o.mc
  have h3 : manyH h = 0 := by omega
  exact ⟨(best_emp hw).2 (count_zero.1 h3), h3⟩
/-- A pop: who it is, and what holds behind it. -/
theorem OrB.pop {sc : List Int} {h : Hp} {sn : List Bool} {j : Nat} {last : Int} (o : OrB sc h sn j last) (hw : HpW h) (hj : j < sc.length) (tie : Int) :
    ∃ v : Nat, popV h tie = (v : Int) ∧ 1 ≤ v ∧ v ≤ sc.length ∧ popB h = true ∧ sn.getD v false = false ∧ hasH (popH h tie) (v : Int) = false ∧ scoreH (popH h tie) (v : Int) ≤ last ∧ OrB sc (popH h tie) (sn.set v true) (j + 1) (scoreH (popH h tie) (v : Int)) := by
  have hn := o.some hw hj
  obtain ⟨v, hv, v1, v2, v3, v4⟩ := pop_at hw hn tie
  have hv3 : v ≤ sc.length := by have := o.ls; omega
  have hq : popH h tie = ⟨h.ss, h.ins.set v false⟩ := by unfold popH; rw [if_neg hn, hv]; rfl
  have hsc : scoreH (popH h tie) (v : Int) = h.ss.getD v 0 := by
    rw [hq]
    unfold scoreH
    rw [if_pos (by rw [isH_iff]; show 0 < (v : Int) ∧ (v : Int) < (h.ss.length : Int); omega)]; rfl
  refine ⟨v, hv, v1, hv3, by unfold popB; simp [hn], by rw [o.iv v v1 hv3, v3]; rfl, ?_, by rw [hsc]; exact o.le v v3, ?_⟩
  · rw [hq]
    unfold hasH
    show (_ && (h.ins.set v false).getD (v : Int).toNat false) = false
    rw [Int.toNat_natCast, getD_setI, if_pos ⟨rfl, by rw [o.li]; omega⟩]
    simp
  · rw [hsc, hq]
    refine ⟨o.ls, by simpa using o.li, o.sv, by simpa using o.sl, fun u h1 h2 => ?_, ?_, fun u hu => ?_⟩
    · show (sn.set v true).getD u false = !(h.ins.set v false).getD u false
      rw [getD_setI, getD_setI, o.sl, o.li]
      by_cases e : v = u
      · rw [if_pos ⟨e, by omega⟩, if_pos ⟨e, by omega⟩]; rfl
      · rw [if_neg (fun hh => e hh.1), if_neg (fun hh => e hh.1)]
        exact o.iv u h1 h2
    · have h1 := count_off v3
      have h2 := o.mc
      unfold manyH at h2 ⊢
      show (h.ins.set v false).count true + (j + 1) = _
      omega
    · show h.ss.getD u 0 ≤ h.ss.getD v 0
      have hu' : (h.ins.set v false).getD u false = true := hu
      rw [getD_setI] at hu'
      split at hu'
      · cases hu'
      · rw [v4]
        exact pop_le hw hu'

/-- A heap of the call's own, and a row of its own at block q. -/
def SQ (w0 : World) (v : Value) (h : Hp) (q : Nat) (sn : List Bool) (W : World) : Prop := ∃ S, HpS W v S h ∧ Below w0.heap.size w0 W ∧ (∀ i ∈ S, w0.heap.size ≤ i) ∧ q ∉ S ∧ w0.heap.size ≤ q ∧ CelG Value.bool false W q sn
theorem CelG.chg {α : Type} {mk : α → Value} {d : α} {w w' : World} {q : Nat} {xs : List α} {S : List Nat} (h : CelG mk d w q xs) (hc : Chg S w w') (hq : q ∉ S) : CelG mk d w' q xs where
  sq := Nat.lt_of_lt_of_le h.sq hc.size
  cells := fun i hi => (hc.cell h.sq hq).trans (h.cells i hi)
  free := fun i => (World.frozen?_of_block (a := ⟨q, i, none⟩) (hc.block q h.sq hq)).trans (h.free i)
theorem SQ.hst {w0 : World} {v : Value} {h : Hp} {q : Nat} {sn : List Bool} {W : World} (s : SQ w0 v h q sn W) : HSt w0 v h W := by
  obtain ⟨S, h1, h2, h3, _⟩ := s
  exact ⟨S, h1, h2, h3⟩
theorem SQ.row {w0 : World} {v : Value} {h : Hp} {q : Nat} {sn : List Bool} {W : World} (s : SQ w0 v h q sn W) : CelG Value.bool false W q sn ∧ w0.heap.size ≤ q := by
  obtain ⟨S, _, _, _, _, h2, h1⟩ := s
  exact ⟨h1, h2⟩
theorem SQ.keep {w0 : World} {v : Value} {h : Hp} {q : Nat} {sn : List Bool} {W W' : World} (s : SQ w0 v h q sn W) (hb : Below W.heap.size W W') : SQ w0 v h q sn W' := by
  obtain ⟨S, h1, h2, h3, h4, h5, h6⟩ := s
  exact ⟨S, h1.below hb, h2.trans (hb.mono h2.size), h3, h4, h5, h6.keep hb⟩
theorem SQ.make {w0 : World} {v : Value} {h : Hp} {q : Nat} {sn : List Bool} {W W' : World} (s : HSt w0 v h W) (hb : Below W.heap.size W W') (hq : q = W.heap.size) (hc : CelG Value.bool false W' q sn) : SQ w0 v h q sn W' := by
  obtain ⟨S, h1, h2, h3⟩ := s
  refine ⟨S, h1.below hb, h2.trans (hb.mono h2.size), h3, fun hm => ?_, by rw [hq]; exact h2.size, hc⟩
  have := h1.lt q hm
  omega
theorem sqPop {w0 : World} {v : Value} {h : Hp} {q : Nat} {sn : List Bool} {W : World} (s : SQ w0 v h q sn W) (x : Int) (h1 : -9223372036854775808 ≤ x) (h2 : x ≤ 9223372036854775807) :
    Calls Try.prog 11 #[v, .int .i64 x] W fun e w' => e = .returned (.tuple #[.int .i64 (popV h x), .bool (popB h)]) ∧ SQ w0 v (popH h x) q sn w' := by
  obtain ⟨S, k1, k2, k3, k4, k5, k6⟩ := s
  refine (hpop_any W k1 x h1 h2).mono fun e w' hp => ?_
  obtain ⟨he, ⟨S', hG, hF⟩, hC⟩ := hp
  refine ⟨he, S', hG, hC.below k2 k2.size k3, fun i hi => (hF i hi).elim (k3 i) (fun h' => Nat.le_trans k2.size h'), fun hm => ?_, k5, k6.chg hC k4⟩
  have := k6.sq
  exact (hF q hm).elim k4 (fun h' => by omega)
/-- A pop, beside a row that is newer than the heap. -/
theorem sqPop2 {w0 : World} {v : Value} {h : Hp} {q : Nat} {sn : List Bool} {W0 W : World} {e : TypeId} {size n : Nat} {u : Value} {xs : List Value} (s : SQ w0 v h q sn W0) (hb : Below W0.heap.size W0 W) (ho : W.ownsRow W0.heap.size e size u n xs) (x : Int) (h1 : -9223372036854775808 ≤ x) (h2 : x ≤ 9223372036854775807) :
    Calls Try.prog 11 #[v, .int .i64 x] W fun e' w' => e' = .returned (.tuple #[.int .i64 (popV h x), .bool (popB h)]) ∧ SQ w0 v (popH h x) q sn w' ∧ w'.ownsRow W0.heap.size e size u n xs := by
  obtain ⟨S, j1, j2, k3, k4, k5, j6⟩ := s
  have k1 := j1.below hb
  have k2 := j2.trans (hb.mono j2.size)
  have k6 := j6.keep hb
  refine (hpop_any W k1 x h1 h2).mono fun e' w' hp => ?_
  obtain ⟨he, ⟨S', hG, hF⟩, hC⟩ := hp
  refine ⟨he, ⟨S', hG, hC.below k2 k2.size k3, fun i hi => (hF i hi).elim (k3 i) (fun h' => Nat.le_trans k2.size h'), fun hm => ?_, k5, k6.chg hC k4⟩, own_chg ho hC (fun k hk hm => ?_)⟩
  · have := k6.sq
    exact (hF q hm).elim k4 (fun h' => by omega)
  · have h1 := (ho.lt k hk).1
    have h2 := j1.lt k hm
    omega
theorem SQ.set {w0 : World} {v : Value} {h : Hp} {q : Nat} {sn : List Bool} {W : World} (s : SQ w0 v h q sn W) (i : Nat) (x : Bool) : SQ w0 v h q (sn.set i x) (W.setCell ⟨q, i, none⟩ (.bool x)) := by
  obtain ⟨S, k1, k2, k3, k4, k5, k6⟩ := s
  have hc : Chg [q] W (W.setCell ⟨q, i, none⟩ (.bool x)) := (Chg.refl _ _).setCell (.inl (by simp)) _
  exact ⟨S, k1.keep hc (fun i hi => by simp; intro e; exact k4 (e ▸ hi)), k2.setCell (by show w0.heap.size ≤ q; exact k5) _, k3, k4, k5, k6.set i x⟩
end Go.Proofs.Yteiidcogjmekhaa
