/- What the program's prop keeps, and what its calls make of it: the contracts that the laws stand on. Conditions: 64-bit ints; a prop that New made and its calls turned; at most a thousand clauses before Add, Propagate. -/
import Derived.Test.YtmlgpnaikdpifaaPrP
import Derived.Test.YtmlgpnaikdpifaaChg
import Derived.Test.YtmlgpnaikdpifaaRead
import Derived.Test.YtmlgpnaikdpifaaPmA4
set_option linter.unusedVariables false
set_option linter.unusedSimpArgs false
namespace Go.Proofs.Ytmlgpnaikdpifaa
open Go.RowKit

def PrS (w : World) (v : Value) (S : List Nat) (p : Pr) : Prop := ∃ ρ L m, v = ptrP L ∧ MA w ρ L m ∧ McI m ∧ m.nx ≤ 1000000 ∧ (∀ b r, ρ b = some r → b ∈ S) ∧ (∀ i ∈ S, i < w.heap.size) ∧ RelP m p
theorem PrS.ptr {w : World} {v : Value} {S : List Nat} {p : Pr} (h : PrS w v S p) : ∃ q, v = .pointer (some ⟨q, 0, none⟩) := by
  obtain ⟨ρ, L, m, rfl, _⟩ := h
  exact ⟨_, rfl⟩
theorem PrS.lt {w : World} {v : Value} {S : List Nat} {p : Pr} (h : PrS w v S p) : ∀ i ∈ S, i < w.heap.size := by
  obtain ⟨ρ, L, m, rfl, _, _, _, _, h, _⟩ := h
  exact h
theorem PrS.keep {w w' : World} {v : Value} {S R : List Nat} {p : Pr} (h : PrS w v S p) (hc : Chg R w w') (hd : ∀ i ∈ S, i ∉ R) : PrS w' v S p := by
  obtain ⟨ρ, L, m, rfl, hM, hI, hn, hS, hl, hR⟩ := h
  exact ⟨ρ, L, m, rfl, hM.same hc.size fun b r hb => hc.block b (hM.lt b r hb) (hd b (hS b r hb)), hI, hn, hS, fun i hi => Nat.lt_of_lt_of_le (hl i hi) hc.size, hR⟩
theorem PrS.wf {w : World} {v : Value} {S : List Nat} {p : Pr} (h : PrS w v S p) : PrW p := by
  obtain ⟨ρ, L, m, rfl, hM, hI, hn, hS, hl, hR⟩ := h
  exact hR.wf hI.w
/-- What a call leaves. -/
def PPost (w : World) (v : Value) (S : List Nat) (R : Value → Pr → Prop) (e : Ending) (w' : World) : Prop := ∃ r p', R r p' ∧ e = .returned r ∧ (∃ S', PrS w' v S' p' ∧ Fresh w S S') ∧ Chg S w w'

/-- The blocks that have a role. -/
def blkL (ρ : Nat → Option Rl) (n : Nat) : List Nat := (List.range n).filter fun b => (ρ b).isSome
theorem mem_blkL {ρ : Nat → Option Rl} {n b : Nat} : b ∈ blkL ρ n ↔ b < n ∧ ∃ r, ρ b = some r := by
  unfold blkL
  rw [List.mem_filter, List.mem_range, Option.isSome_iff_exists]
section
variable {w w' : World} {ρ ρ' : Nat → Option Rl} {L L' : Lay} {m m' : Mc} {S : List Nat} {p p' : Pr}
theorem MA.prS (h : MA w ρ L m) (hI : McI m) (hn : m.nx ≤ 1000000) (hR : RelP m p) : PrS w (ptrP L) (blkL ρ w.heap.size) p :=
  ⟨ρ, L, m, rfl, h, hI, hn, fun b r hb => mem_blkL.2 ⟨h.lt b r hb, r, hb⟩, fun i hi => (mem_blkL.1 hi).1, hR⟩
theorem prS_post (hS : ∀ b r, ρ b = some r → b ∈ S) (hC : Chr ρ w ρ' w') (hM : MA w' ρ' L' m') (hp : L'.p = L.p) (hI : McI m') (hn : m'.nx ≤ 1000000) (hR : RelP m' p') :
    (∃ S', PrS w' (ptrP L) S' p' ∧ Fresh w S S') ∧ Chg S w w' := by
  have hno : ∀ i, i ∉ S → ρ i = none := fun i hi => by
    cases e : ρ i with
    | none => rfl
    | some r => exact absurd (hS i r e) hi
  refine ⟨⟨blkL ρ' w'.heap.size, ?_, fun i hi => ?_⟩, ⟨hC.os, hC.tape, hC.output, hC.size, fun i hi hn' => hC.block i hi (hno i hn')⟩⟩
  · have : ptrP L = ptrP L' := by unfold ptrP; rw [hp]
    rw [this]
    exact hM.prS hI hn hR
  · by_cases h1 : i ∈ S
    · exact .inl h1
    · right
      rcases Nat.lt_or_ge i w.heap.size with h2 | h2
      · obtain ⟨_, r, hr⟩ := mem_blkL.1 hi
        rw [hC.old i h2 (hno i h1)] at hr
        cases hr
      · exact h2
end
def addR (p : Pr) (xs : List Int) (r : Value) (p' : Pr) : Prop :=
  (addOk p.n xs = true ∧ ∃ c, NrmP xs c ∧ r = .tuple #[.int .i64 (p.cl.length : Int), .bool true] ∧ p' = addP p c) ∨ (addOk p.n xs = false ∧ p' = p ∧ ∃ x : Int, r = .tuple #[.int .i64 x, .bool false])
section
variable {v : Value} {S : List Nat} {p : Pr}

theorem pnew_any (w : World) (n : Int) (h1 : -9223372036854775808 ≤ n) (h2 : n ≤ 9223372036854775807) : Calls Try.prog 10 #[.int .i64 n] w fun e w' => ∃ v S, e = .returned v ∧ PrS w' v S (newP n) ∧ (∀ i ∈ S, w.heap.size ≤ i) ∧ Below w.heap.size w w' := by
  refine (mnew_any w n h1 h2).mono ?_
  rintro e w' ⟨ρ, L, V, rfl, hM, hI, hb, hr⟩
  exact ⟨ptrP L, blkL ρ w'.heap.size, rfl, hM.prS hI (Nat.zero_le _) ⟨rfl, rfl, rfl, rfl, rfl, fun i => .inl ⟨rfl, by simp [newP, List.getD]⟩⟩, fun i hi => by obtain ⟨_, r, h⟩ := mem_blkL.1 hi; exact hr i r h, hb⟩

theorem pgrow_any (w : World) (hs : PrS w v S p) (n : Int) (h1 : -9223372036854775808 ≤ n) (h2 : n ≤ 9223372036854775807) : Calls Try.prog 41 #[v, .int .i64 n] w (PPost w v S fun r p' => r = .tuple #[] ∧ p' = growP p n) := by
  obtain ⟨ρ, L, m, rfl, hM, hI, hn, hS, hl, hR⟩ := hs
  refine (mgrow_any hM hI n h1 h2).mono ?_
  rintro e w' ⟨rfl, ⟨hle, rfl⟩ | ⟨hlt, ρ', L', V, hC, hp, hM', hI'⟩⟩
  · refine ⟨_, growP p n, ⟨rfl, rfl⟩, rfl, prS_post hS (Chr.refl _ _) hM rfl hI hn ?_⟩
    have e : growP p n = p := by
      unfold growP
      have : max p.n (cutP n) = p.n := Nat.max_eq_left (by rw [hR.n]; exact hle)
      rw [this]
    rw [e]; exact hR
  · refine ⟨_, growP p n, ⟨rfl, rfl⟩, rfl, prS_post hS hC hM' hp hI' hn ⟨?_, hR.tr, hR.st, hR.rs, hR.len, hR.cl⟩⟩
    show max p.n (cutP n) = gN n
    exact Nat.max_eq_right (by rw [hR.n]; exact Nat.le_of_lt hlt)

theorem padd_any (w : World) (hs : PrS w v S p) (u : Value) (xs : List Int) (hu : Row w u xs) (hx : InW xs) (hn : xs.length ≤ 1000) (hc : p.cl.length ≤ 1000) : Calls Try.prog 12 #[v, u] w (PPost w v S (addR p xs)) := by
  obtain ⟨ρ, L, m, rfl, hM, hI, hnx, hS, hl, hR⟩ := hs
  have hnx' : m.nx ≤ 1000 := by rw [← hR.len]; exact hc
  have hab : addOk p.n xs = addB m xs := by unfold addOk addB; rw [hR.n]
  refine (madd_any hM hI hnx u xs hu hx (by omega)).mono ?_
  rintro e w' (⟨hb, rfl, hbe⟩ | ⟨hb, rfl, ρ', L', hM', hC, hp⟩)
  · exact ⟨_, p, .inr ⟨by rw [hab, hb], rfl, 0, rfl⟩, rfl, prS_post hS (Chr.of_below hbe) (hM.below hbe) rfl hI hnx hR⟩
  · have hb' := hb
    unfold addB at hb'
    rw [decide_eq_true_iff] at hb'
    have hI' : McI (addM m (normL xs)) := hI.add (norm_nodup xs) fun l hl => by
      obtain ⟨k1, k2⟩ := hb' l (((norm_spec xs).2 l).1 hl)
      exact ⟨k1, fun hn' => k2 (((norm_spec xs).2 _).1 hn')⟩
    exact ⟨_, addP p (normL xs), .inl ⟨by rw [hab, hb], normL xs, ⟨norm_nodup xs, (norm_spec xs).2⟩, by rw [hR.len], rfl⟩, rfl, prS_post hS hC hM' hp hI' (by show m.nx + 1 ≤ _; omega) (hR.add hI _)⟩

theorem pdrop_any (w : World) (hs : PrS w v S p) (i : Int) (h1 : -9223372036854775808 ≤ i) (h2 : i ≤ 9223372036854775807) : Calls Try.prog 23 #[v, .int .i64 i] w (PPost w v S fun r p' => r = .bool (dropOk p i) ∧ p' = dropP p i) := by
  obtain ⟨ρ, L, m, rfl, hM, hI, hnx, hS, hl, hR⟩ := hs
  refine (mdrop_any hM hI hnx i h1 h2).mono ?_
  rintro e w' ⟨b, rfl, ⟨rfl, hno, t, rfl⟩ | ⟨rfl, h0, c, hc, hr, ρ', hC, L', hL, hM'⟩⟩
  · have hok : dropOk p i = false := by
      unfold dropOk
      rcases hno with h | h | ⟨c, hc, hr⟩
      · rw [decide_eq_false (by omega)]; rfl
      · rcases hR.cl i.toNat with ⟨_, k2⟩ | ⟨c, d, k1, _⟩
        · rw [k2]; simp
        · rw [h] at k1; cases k1
      · by_cases h0 : 0 ≤ i
        · have := (hR.isr hI.w hc).1 hr
          rw [Int.toNat_of_nonneg h0] at this
          simp [this]
        · rw [decide_eq_false h0]; rfl
    have he : dropP p i = p := by unfold dropP; rw [hok]; rfl
    exact ⟨_, dropP p i, ⟨by rw [hok], rfl⟩, rfl, by rw [he]; exact prS_post hS ((Chr.refl _ _).drewN t) (hM.drewN t) rfl hI hnx hR⟩
  · have hok : dropOk p i = true := by
      unfold dropOk
      obtain ⟨d, hd, _⟩ := hR.of hc
      have hni : i ∉ p.rs := fun hm => by
        rw [← Int.toNat_of_nonneg h0] at hm
        rw [(hR.isr hI.w hc).2 hm] at hr
        cases hr
      rw [hd]; simp [h0, hni]
    have he : dropP p i = { p with cl := p.cl.set i.toNat none } := by unfold dropP; rw [hok]; rfl
    have hI' : McI (dropM m i.toNat c) := hI.drop hc (isr_no hI.w hc hr)
    have hq := dropM_eq hI hc
    exact ⟨_, dropP p i, ⟨by rw [hok], rfl⟩, rfl, by rw [he]; exact prS_post hS hC hM' hL.p hI' (by rw [hq.2.2.2.2.1]; exact hnx) (hR.drop hq hc (hI.w.cls _ _ hc).1)⟩

theorem pdec_any (w : World) (hs : PrS w v S p) (l : Int) (h1 : -9223372036854775807 ≤ l) (h2 : l ≤ 9223372036854775807) : Calls Try.prog 18 #[v, .int .i64 l] w (PPost w v S fun r p' => r = .bool (decOk p l) ∧ p' = decdP p l) := by
  obtain ⟨ρ, L, m, rfl, hM, hI, hnx, hS, hl, hR⟩ := hs
  have hok := hR.decOk hI.w l
  refine (mdec_any hM hI l h1 h2).mono ?_
  rintro e w' ⟨b, rfl, ⟨hb, rfl, rfl⟩ | ⟨hb, rfl, ρ', hC, sv, tv, hM'⟩⟩
  · have he : decdP p l = p := by unfold decdP; rw [hok, hb]; rfl
    exact ⟨_, decdP p l, ⟨by rw [hok, hb], rfl⟩, rfl, by rw [he]; exact prS_post hS (Chr.refl _ _) hM rfl hI hnx hR⟩
  · have he : decdP p l = { p with tr := p.tr ++ [l], rs := p.rs ++ [-1], st := p.st ++ [p.tr.length] } := by unfold decdP; rw [hok, hb]; rfl
    have hb' := hb
    unfold decB at hb'
    rw [Bool.and_eq_true] at hb'
    have h0 : valL m.vs l = 0 := beq_iff_eq.1 hb'.2
    exact ⟨_, decdP p l, ⟨by rw [hok, hb], rfl⟩, rfl, by rw [he]; exact prS_post hS hC hM' rfl (hI.decide (isM_iff.1 hb'.1) h0) hnx (hR.dec hI.w h0)⟩

theorem pprop_any (w : World) (hs : PrS w v S p) (hc : p.cl.length ≤ 1000) : Calls Try.prog 14 #[v] w (PPost w v S fun r p' => ∃ x : Int, r = .int .i64 x ∧ PrpR p x p') := by
  obtain ⟨ρ, L, m, rfl, hM, hI, hnx, hS, hl, hR⟩ := hs
  refine (mprp_any hM hI hnx).mono ?_
  rintro e w' ⟨x, rfl, ρ', L', m', hP, hx⟩
  obtain ⟨p', hR', e1, e2, e3, e4⟩ := hR.prop hP.x hP.i
  refine ⟨_, p', ⟨x, rfl, e1, e2, e3, e4, hR'.wf hP.i.w, ?_⟩, rfl, prS_post hS hP.chr hP.ma hP.p hP.i (by rw [hP.x.nx]; exact hnx) hR'⟩
  rcases hx with ⟨rfl, k1, k2⟩ | ⟨k, c, rfl, hc, hf⟩
  · exact .inl ⟨rfl, hR'.cld hP.i k1 k2⟩
  · obtain ⟨d, hd, hp⟩ := hR'.of hc
    exact .inr ⟨k, d, rfl, hd, fun l hl => by rw [hR'.tr]; exact hf l (hp.mem_iff.1 hl)⟩

theorem pback_any (w : World) (hs : PrS w v S p) (k : Int) (h1 : -9223372036854775808 ≤ k) (h2 : k ≤ 9223372036854775807) : Calls Try.prog 20 #[v, .int .i64 k] w (PPost w v S fun r p' => r = .tuple #[] ∧ p' = backP p k) := by
  obtain ⟨ρ, L, m, rfl, hM, hI, hnx, hS, hl, hR⟩ := hs
  refine (mback_any hM hI hnx k h1 h2).mono ?_
  rintro e w' ⟨rfl, ⟨hle, rfl⟩ | ⟨hlt, ρ', L', mj, hC, hp, _, hM', hB⟩⟩
  · have he : backP p k = p := by unfold backP; rw [if_neg (by rw [hR.st]; omega)]
    exact ⟨_, backP p k, ⟨rfl, rfl⟩, rfl, by rw [he]; exact prS_post hS (Chr.refl _ _) hM rfl hI hnx hR⟩
  · have he : backP p k = { p with tr := p.tr.take (m.st.getD k.toNat 0), rs := p.rs.take (m.st.getD k.toNat 0), st := p.st.take k.toNat } := by unfold backP; rw [if_pos (by rw [hR.st]; exact hlt), hR.st]
    exact ⟨_, backP p k, ⟨rfl, rfl⟩, rfl, by rw [he]; exact prS_post hS hC hM' hp (BkI.done hI hlt hB) (by show mj.nx ≤ _; rw [hB.enx]; exact hnx) (hR.back hI.w hlt hB)⟩

theorem pval_any (w : World) (hs : PrS w v S p) (l : Int) (h1 : -9223372036854775807 ≤ l) (h2 : l ≤ 9223372036854775807) : Calls Try.prog 17 #[v, .int .i64 l] w fun e w' => e = .returned (.int .i64 (valP p l)) ∧ w = w' := by
  obtain ⟨ρ, L, m, rfl, hM, hI, hnx, hS, hl, hR⟩ := hs
  rw [hR.val hI.w]
  exact mval_any hM l h1 h2

theorem plvl_any (w : World) (hs : PrS w v S p) : Calls Try.prog 24 #[v] w fun e w' => e = .returned (.int .i64 (p.st.length : Int)) ∧ w = w' := by
  obtain ⟨ρ, L, m, rfl, hM, hI, hnx, hS, hl, hR⟩ := hs
  rw [hR.st]
  exact mlvl_any hM

theorem plev_any (w : World) (hs : PrS w v S p) (x : Int) (h1 : -9223372036854775807 ≤ x) (h2 : x ≤ 9223372036854775807) : Calls Try.prog 30 #[v, .int .i64 x] w fun e w' => e = .returned (.int .i64 (levP p x)) ∧ w = w' := by
  obtain ⟨ρ, L, m, rfl, hM, hI, hnx, hS, hl, hR⟩ := hs
  rw [hR.lev hI.w]
  exact mlev_any hM x h1 h2 (known_le hI.w) hI.w.n

theorem prea_any (w : World) (hs : PrS w v S p) (x : Int) (h1 : -9223372036854775807 ≤ x) (h2 : x ≤ 9223372036854775807) : Calls Try.prog 61 #[v, .int .i64 x] w fun e w' => e = .returned (.int .i64 (reaP p x)) ∧ w = w' := by
  obtain ⟨ρ, L, m, rfl, hM, hI, hnx, hS, hl, hR⟩ := hs
  rw [hR.rea hI.w]
  exact mrea_any hM hI.w x h1 h2

theorem ptrl_any (w : World) (hs : PrS w v S p) : Calls Try.prog 48 #[v] w fun e w' => ∃ u, e = .returned u ∧ Row w' u p.tr ∧ Below w.heap.size w w' := by
  obtain ⟨ρ, L, m, rfl, hM, hI, hnx, hS, hl, hR⟩ := hs
  rw [hR.tr]
  refine (mtrl_any hM (Nat.le_trans hI.w.tr_len hI.w.n)).mono ?_
  rintro e w' ⟨⟨u, rfl, ho⟩, hb⟩
  exact ⟨u, rfl, own_row ho, hb⟩

theorem pcls_any (w : World) (hs : PrS w v S p) (i : Int) (h1 : -9223372036854775808 ≤ i) (h2 : i ≤ 9223372036854775807) : Calls Try.prog 60 #[v, .int .i64 i] w fun e w' => ∃ u c, e = .returned u ∧ Row w' u c ∧ c.Perm (if i < 0 then [] else (p.cl.getD i.toNat none).getD []) ∧ Below w.heap.size w w' := by
  obtain ⟨ρ, L, m, rfl, hM, hI, hnx, hS, hl, hR⟩ := hs
  refine (mcls_any hM hI.w i h1 h2).mono ?_
  rintro e w' ⟨⟨u, rfl, ho⟩, hb⟩
  exact ⟨u, _, rfl, ho, hR.cond i, hb⟩

end
end Go.Proofs.Ytmlgpnaikdpifaa
