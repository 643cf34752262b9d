/- What the program's prop keeps, and what its calls make of it: the contracts that the laws stand on. Conditions: 64-bit ints; a prop that New made and its calls turned; at most a thousand clauses before Add, Propagate. · The contract of skolemref.Ints: a copy in memory of the call's own. Conditions: the slice reads as ints, and is not too long. · A prop of the call's own in memory ('PSt'), and what each call leaves of it; the contract of skolemlaw15.first. Conditions: the numbers are 64-bit ints; the prop lies in memory as 'PrS' says. -/
import Derived.Test.YtjlmooimdogmjaaLg04
import Derived.Test.YtjlmooimdogmjaaLg07
import Derived.Test.YtjlmooimdogmjaaLg00
import Derived.Test.YtjlmooimdogmjaaLg28
import Derived.Test.YtjlmooimdogmjaaLg01
import Derived.Test.YtjlmooimdogmjaaChecked
import Derived.IntWalk
import Derived.Deep.Light
set_option linter.unusedVariables false
set_option linter.unusedSimpArgs false
set_option linter.unusedVariables false
set_option linter.unusedSimpArgs false
namespace Go.Proofs.Ytjlmooimdogmjaa
open Go.RowKit

def PrS (w : World) (v : Value) (S : List Nat) (p : Pr) : Prop := ∃ ρ L m, v = ptrP L ∧ MA w ρ L m ∧ McI m ∧ m.nx ≤ 1000000 ∧ (∀ b r, ρ b = some r → b ∈ S) ∧ (∀ i ∈ S, i < w.heap.size) ∧ RelP m p
theorem PrS.ptr {w : World} {v : Value} {S : List Nat} {p : Pr} (h : PrS w v S p) : ∃ q, v = .pointer (some ⟨q, 0, none⟩) := by
  obtain ⟨ρ, L, m, rfl, _⟩ := h
  exact ⟨_, rfl⟩
theorem PrS.lt {w : World} {v : Value} {S : List Nat} {p : Pr} (h : PrS w v S p) : ∀ i ∈ S, i < w.heap.size := by
  obtain ⟨ρ, L, m, rfl, _, _, _, _, h, _⟩ := h
  exact h
theorem PrS.keep {w w' : World} {v : Value} {S R : List Nat} {p : Pr} (h : PrS w v S p) (hc : Chg R w w') (hd : ∀ i ∈ S, i ∉ R) : PrS w' v S p := by
  obtain ⟨ρ, L, m, rfl, hM, hI, hn, hS, hl, hR⟩ := h
  exact ⟨ρ, L, m, rfl, hM.same hc.size fun b r hb => hc.block b (hM.lt b r hb) (hd b (hS b r hb)), hI, hn, hS, fun i hi => Nat.lt_of_lt_of_le (hl i hi) hc.size, hR⟩
theorem PrS.wf {w : World} {v : Value} {S : List Nat} {p : Pr} (h : PrS w v S p) : PrW p := by
  obtain ⟨ρ, L, m, rfl, hM, hI, hn, hS, hl, hR⟩ := h
  exact hR.wf hI.w
/-- What a call leaves. -/
def PPost (w : World) (v : Value) (S : List Nat) (R : Value → Pr → Prop) (e : Ending) (w' : World) : Prop := ∃ r p', R r p' ∧ e = .returned r ∧ (∃ S', PrS w' v S' p' ∧ Fresh w S S') ∧ Chg S w w'

/-- The blocks that have a role. -/
def blkL (ρ : Nat → Option Rl) (n : Nat) : List Nat := (List.range n).filter fun b => (ρ b).isSome
theorem mem_blkL {ρ : Nat → Option Rl} {n b : Nat} : b ∈ blkL ρ n ↔ b < n ∧ ∃ r, ρ b = some r := by
  unfold blkL
  rw [List.mem_filter, List.mem_range, Option.isSome_iff_exists]
section
variable {w w' : World} {ρ ρ' : Nat → Option Rl} {L L' : Lay} {m m' : Mc} {S : List Nat} {p p' : Pr}
theorem MA.prS (h : MA w ρ L m) (hI : McI m) (hn : m.nx ≤ 1000000) (hR : RelP m p) : PrS w (ptrP L) (blkL ρ w.heap.size) p :=
  ⟨ρ, L, m, rfl, h, hI, hn, fun b r hb => mem_blkL.2 ⟨h.lt b r hb, r, hb⟩, fun i hi => (mem_blkL.1 hi).1, hR⟩
theorem prS_post (hS : ∀ b r, ρ b = some r → b ∈ S) (hC : Chr ρ w ρ' w') (hM : MA w' ρ' L' m') (hp : L'.p = L.p) (hI : McI m') (hn : m'.nx ≤ 1000000) (hR : RelP m' p') :
    (∃ S', PrS w' (ptrP L) S' p' ∧ Fresh w S S') ∧ Chg S w w' := by
  have hno : ∀ i, i ∉ S → ρ i = none := fun i hi => by
    cases e : ρ i with
    | none => rfl
    | some r => exact absurd (hS i r e) hi
  refine ⟨⟨blkL ρ' w'.heap.size, ?_, fun i hi => ?_⟩, ⟨hC.os, hC.tape, hC.output, hC.size, fun i hi hn' => hC.block i hi (hno i hn')⟩⟩
  · have : ptrP L = ptrP L' := by unfold ptrP; rw [hp]
    rw [this]
    exact hM.prS hI hn hR
  · by_cases h1 : i ∈ S
    · exact .inl h1
    · right
      rcases Nat.lt_or_ge i w.heap.size with h2 | h2
      · obtain ⟨_, r, hr⟩ := mem_blkL.1 hi
        rw [hC.old i h2 (hno i h1)] at hr
        cases hr
      · exact h2
end
def addR (p : Pr) (xs : List Int) (r : Value) (p' : Pr) : Prop :=
  (addOk p.n xs = true ∧ ∃ c, NrmP xs c ∧ r = .tuple #[.int .i64 (p.cl.length : Int), .bool true] ∧ p' = addP p c) ∨ (addOk p.n xs = false ∧ p' = p ∧ ∃ x : Int, r = .tuple #[.int .i64 x, .bool false])
section
variable {v : Value} {S : List Nat} {p : Pr}

theorem pnew_any (w : World) (n : Int) (h1 : -9223372036854775808 ≤ n) (h2 : n ≤ 9223372036854775807) : Calls Try.prog 27 #[.int .i64 n] w fun e w' => ∃ v S, e = .returned v ∧ PrS w' v S (newP n) ∧ (∀ i ∈ S, w.heap.size ≤ i) ∧ Below w.heap.size w w' := by
  refine (mnew_any w n h1 h2).mono ?_
  rintro e w' ⟨ρ, L, V, rfl, hM, hI, hb, hr⟩
  exact ⟨ptrP L, blkL ρ w'.heap.size, rfl, hM.prS hI (Nat.zero_le _) ⟨rfl, rfl, rfl, rfl, rfl, fun i => .inl ⟨rfl, by simp [newP, List.getD]⟩⟩, fun i hi => by obtain ⟨_, r, h⟩ := mem_blkL.1 hi; exact hr i r h, hb⟩

theorem pgrow_any (w : World) (hs : PrS w v S p) (n : Int) (h1 : -9223372036854775808 ≤ n) (h2 : n ≤ 9223372036854775807) : Calls Try.prog 58 #[v, .int .i64 n] w (PPost w v S fun r p' => r = .tuple #[] ∧ p' = growP p n) := by
  obtain ⟨ρ, L, m, rfl, hM, hI, hn, hS, hl, hR⟩ := hs
  refine (mgrow_any hM hI n h1 h2).mono ?_
  rintro e w' ⟨rfl, ⟨hle, rfl⟩ | ⟨hlt, ρ', L', V, hC, hp, hM', hI'⟩⟩
  · refine ⟨_, growP p n, ⟨rfl, rfl⟩, rfl, prS_post hS (Chr.refl _ _) hM rfl hI hn ?_⟩
    have e : growP p n = p := by
      unfold growP
      have : max p.n (cutP n) = p.n := Nat.max_eq_left (by rw [hR.n]; exact hle)
      rw [this]
    rw [e]; exact hR
  · refine ⟨_, growP p n, ⟨rfl, rfl⟩, rfl, prS_post hS hC hM' hp hI' hn ⟨?_, hR.tr, hR.st, hR.rs, hR.len, hR.cl⟩⟩
    show max p.n (cutP n) = gN n
    exact Nat.max_eq_right (by rw [hR.n]; exact Nat.le_of_lt hlt)

theorem padd_any (w : World) (hs : PrS w v S p) (u : Value) (xs : List Int) (hu : Row w u xs) (hx : InW xs) (hn : xs.length ≤ 1000) (hc : p.cl.length ≤ 1000) : Calls Try.prog 18 #[v, u] w (PPost w v S (addR p xs)) := by
  obtain ⟨ρ, L, m, rfl, hM, hI, hnx, hS, hl, hR⟩ := hs
  have hnx' : m.nx ≤ 1000 := by rw [← hR.len]; exact hc
  have hab : addOk p.n xs = addB m xs := by unfold addOk addB; rw [hR.n]
  refine (madd_any hM hI hnx u xs hu hx (by omega)).mono ?_
  rintro e w' (⟨hb, rfl, hbe⟩ | ⟨hb, rfl, ρ', L', hM', hC, hp⟩)
  · exact ⟨_, p, .inr ⟨by rw [hab, hb], rfl, 0, rfl⟩, rfl, prS_post hS (Chr.of_below hbe) (hM.below hbe) rfl hI hnx hR⟩
  · have hb' := hb
    unfold addB at hb'
    rw [decide_eq_true_iff] at hb'
    have hI' : McI (addM m (normL xs)) := hI.add (norm_nodup xs) fun l hl => by
      obtain ⟨k1, k2⟩ := hb' l (((norm_spec xs).2 l).1 hl)
      exact ⟨k1, fun hn' => k2 (((norm_spec xs).2 _).1 hn')⟩
    exact ⟨_, addP p (normL xs), .inl ⟨by rw [hab, hb], normL xs, ⟨norm_nodup xs, (norm_spec xs).2⟩, by rw [hR.len], rfl⟩, rfl, prS_post hS hC hM' hp hI' (by show m.nx + 1 ≤ _; omega) (hR.add hI _)⟩

theorem pdec_any (w : World) (hs : PrS w v S p) (l : Int) (h1 : -9223372036854775807 ≤ l) (h2 : l ≤ 9223372036854775807) : Calls Try.prog 28 #[v, .int .i64 l] w (PPost w v S fun r p' => r = .bool (decOk p l) ∧ p' = decdP p l) := by
  obtain ⟨ρ, L, m, rfl, hM, hI, hnx, hS, hl, hR⟩ := hs
  have hok := hR.decOk hI.w l
  refine (mdec_any hM hI l h1 h2).mono ?_
  rintro e w' ⟨b, rfl, ⟨hb, rfl, rfl⟩ | ⟨hb, rfl, ρ', hC, sv, tv, hM'⟩⟩
  · have he : decdP p l = p := by unfold decdP; rw [hok, hb]; rfl
    exact ⟨_, decdP p l, ⟨by rw [hok, hb], rfl⟩, rfl, by rw [he]; exact prS_post hS (Chr.refl _ _) hM rfl hI hnx hR⟩
  · have he : decdP p l = { p with tr := p.tr ++ [l], rs := p.rs ++ [-1], st := p.st ++ [p.tr.length] } := by unfold decdP; rw [hok, hb]; rfl
    have hb' := hb
    unfold decB at hb'
    rw [Bool.and_eq_true] at hb'
    have h0 : valL m.vs l = 0 := beq_iff_eq.1 hb'.2
    exact ⟨_, decdP p l, ⟨by rw [hok, hb], rfl⟩, rfl, by rw [he]; exact prS_post hS hC hM' rfl (hI.decide (isM_iff.1 hb'.1) h0) hnx (hR.dec hI.w h0)⟩

theorem pprop_any (w : World) (hs : PrS w v S p) (hc : p.cl.length ≤ 1000) : Calls Try.prog 19 #[v] w (PPost w v S fun r p' => ∃ x : Int, r = .int .i64 x ∧ PrpR p x p') := by
  obtain ⟨ρ, L, m, rfl, hM, hI, hnx, hS, hl, hR⟩ := hs
  refine (mprp_any hM hI hnx).mono ?_
  rintro e w' ⟨x, rfl, ρ', L', m', hP, hx⟩
  obtain ⟨p', hR', e1, e2, e3, e4⟩ := hR.prop hP.x hP.i
  refine ⟨_, p', ⟨x, rfl, e1, e2, e3, e4, hR'.wf hP.i.w, ?_⟩, rfl, prS_post hS hP.chr hP.ma hP.p hP.i (by rw [hP.x.nx]; exact hnx) hR'⟩
  rcases hx with ⟨rfl, k1, k2⟩ | ⟨k, c, rfl, hc, hf⟩
  · exact .inl ⟨rfl, hR'.cld hP.i k1 k2⟩
  · obtain ⟨d, hd, hp⟩ := hR'.of hc
    exact .inr ⟨k, d, rfl, hd, fun l hl => by rw [hR'.tr]; exact hf l (hp.mem_iff.1 hl)⟩

theorem pback_any (w : World) (hs : PrS w v S p) (k : Int) (h1 : -9223372036854775808 ≤ k) (h2 : k ≤ 9223372036854775807) : Calls Try.prog 17 #[v, .int .i64 k] w (PPost w v S fun r p' => r = .tuple #[] ∧ p' = backP p k) := by
  obtain ⟨ρ, L, m, rfl, hM, hI, hnx, hS, hl, hR⟩ := hs
  refine (mback_any hM hI hnx k h1 h2).mono ?_
  rintro e w' ⟨rfl, ⟨hle, rfl⟩ | ⟨hlt, ρ', L', mj, hC, hp, _, hM', hB⟩⟩
  · have he : backP p k = p := by unfold backP; rw [if_neg (by rw [hR.st]; omega)]
    exact ⟨_, backP p k, ⟨rfl, rfl⟩, rfl, by rw [he]; exact prS_post hS (Chr.refl _ _) hM rfl hI hnx hR⟩
  · have he : backP p k = { p with tr := p.tr.take (m.st.getD k.toNat 0), rs := p.rs.take (m.st.getD k.toNat 0), st := p.st.take k.toNat } := by unfold backP; rw [if_pos (by rw [hR.st]; exact hlt), hR.st]
    exact ⟨_, backP p k, ⟨rfl, rfl⟩, rfl, by rw [he]; exact prS_post hS hC hM' hp (BkI.done hI hlt hB) (by show mj.nx ≤ _; rw [hB.enx]; exact hnx) (hR.back hI.w hlt hB)⟩

theorem pval_any (w : World) (hs : PrS w v S p) (l : Int) (h1 : -9223372036854775807 ≤ l) (h2 : l ≤ 9223372036854775807) : Calls Try.prog 11 #[v, .int .i64 l] w fun e w' => e = .returned (.int .i64 (valP p l)) ∧ w = w' := by
  obtain ⟨ρ, L, m, rfl, hM, hI, hnx, hS, hl, hR⟩ := hs
  rw [hR.val hI.w]
  exact mval_any hM l h1 h2

theorem plvl_any (w : World) (hs : PrS w v S p) : Calls Try.prog 15 #[v] w fun e w' => e = .returned (.int .i64 (p.st.length : Int)) ∧ w = w' := by
  obtain ⟨ρ, L, m, rfl, hM, hI, hnx, hS, hl, hR⟩ := hs
  rw [hR.st]
  exact mlvl_any hM

theorem plev_any (w : World) (hs : PrS w v S p) (x : Int) (h1 : -9223372036854775807 ≤ x) (h2 : x ≤ 9223372036854775807) : Calls Try.prog 12 #[v, .int .i64 x] w fun e w' => e = .returned (.int .i64 (levP p x)) ∧ w = w' := by
  obtain ⟨ρ, L, m, rfl, hM, hI, hnx, hS, hl, hR⟩ := hs
  rw [hR.lev hI.w]
  exact mlev_any hM x h1 h2 (known_le hI.w) hI.w.n

theorem prea_any (w : World) (hs : PrS w v S p) (x : Int) (h1 : -9223372036854775807 ≤ x) (h2 : x ≤ 9223372036854775807) : Calls Try.prog 52 #[v, .int .i64 x] w fun e w' => e = .returned (.int .i64 (reaP p x)) ∧ w = w' := by
  obtain ⟨ρ, L, m, rfl, hM, hI, hnx, hS, hl, hR⟩ := hs
  rw [hR.rea hI.w]
  exact mrea_any hM hI.w x h1 h2

theorem ptrl_any (w : World) (hs : PrS w v S p) : Calls Try.prog 61 #[v] w fun e w' => ∃ u, e = .returned u ∧ Row w' u p.tr ∧ Below w.heap.size w w' := by
  obtain ⟨ρ, L, m, rfl, hM, hI, hnx, hS, hl, hR⟩ := hs
  rw [hR.tr]
  refine (mtrl_any hM (Nat.le_trans hI.w.tr_len hI.w.n)).mono ?_
  rintro e w' ⟨⟨u, rfl, ho⟩, hb⟩
  exact ⟨u, rfl, own_row ho, hb⟩

theorem pcls_any (w : World) (hs : PrS w v S p) (i : Int) (h1 : -9223372036854775808 ≤ i) (h2 : i ≤ 9223372036854775807) : Calls Try.prog 31 #[v, .int .i64 i] w fun e w' => ∃ u c, e = .returned u ∧ Row w' u c ∧ c.Perm (if i < 0 then [] else (p.cl.getD i.toNat none).getD []) ∧ Below w.heap.size w w' := by
  obtain ⟨ρ, L, m, rfl, hM, hI, hnx, hS, hl, hR⟩ := hs
  refine (mcls_any hM hI.w i h1 h2).mono ?_
  rintro e w' ⟨⟨u, rfl, ho⟩, hb⟩
  exact ⟨u, _, rfl, ho, hR.cond i, hb⟩

end
end Go.Proofs.Ytjlmooimdogmjaa

namespace Go.Proofs.Ytjlmooimdogmjaa
open Go.RowKit

set_option maxHeartbeats 1000000 in
theorem ints_any (v : Value) (xs : List Int) (w : World) (hv : Row w v xs) (hn : xs.length < 1000000000) :
    Calls Try.prog 51 #[v] w fun e w' => ∃ v', e = .returned v' ∧ w'.ownsRow w.heap.size 3 1 v' xs.length (xs.map (Value.int .i64)) ∧ Below w.heap.size w w' := by
  obtain ⟨a, c, rfl, hxc, hcm, hx⟩ := hv
  unfold maxLen at hcm
  have HX := Lib.hid hx; clear hx
  generalize hN : xs.length = n at *
  have HN := Lib.hid hN; clear hN
  go_enter Try.func51, Try.ntmps51
  go_wp2_with (at_make; refine wpList_make0 rfl _ _ rfl _ n rfl rfl (by omega) ?_; intro w1 hown hb1 hs1)
  go_loopw [3, 4] (fun o i wr => ∃ k : Nat, k ≤ n ∧ i = .int .i64 k ∧ wr.ownsRow w.heap.size 3 1 o k ((xs.take k).map (Value.int .i64)) ∧ Below w.heap.size w wr ∧ w.heap.size < wr.heap.size) (fun _ i _ => n - (intOf i).toNat)
  case atStart => exact ⟨0, Nat.zero_le _, rfl, by simpa using hown, hb1, hs1⟩
  case round =>
    obtain ⟨k, hk, rfl, hownr, hbr, hsr⟩ := hrel
    clear hown hb1 hs1
    by_cases hlt : k < n
    · obtain ⟨b, off, ha, hb, hc⟩ := HX.out.resolve_left (by omega)
      subst ha
      have g1 : wr.cell? ⟨b, off + k, none⟩ = some (.int .i64 (xs.getD k 0)) := (hbr.cell (p := ⟨b, off + k, none⟩) hb).trans (hc k hlt)
      clear hc
      have HT := Lib.hid (take_snoc xs k (by rw [HN.out]; exact hlt))
      generalize xs.getD k 0 = y at *
      go_wp2_with (at_builtin; refine wpList_app1 rfl _ _ rfl wr w.heap.size _ _ _ y hownr (by omega) (by omega) rfl rfl ?_; intro v' w2 hown2 hb3)
      go_roundw
      case rel => exact ⟨k + 1, by omega, by go_num, by rw [HT.out]; exact hown2, hbr.trans hb3.below, Nat.lt_of_lt_of_le hsr hb3.below.size⟩
      case measure => simp [intOf]; omega
    · have hkn : k = n := by omega
      rw [hkn, List.take_of_length_le (by rw [HN.out]; exact Nat.le_refl _)] at hownr
      clear hkn
      go_wp2
      go_ret
      exact ⟨_, rfl, hownr, hbr⟩
end Go.Proofs.Ytjlmooimdogmjaa

set_option linter.unusedVariables false
set_option linter.unusedSimpArgs false
namespace Go.Proofs.Ytjlmooimdogmjaa
open Go.RowKit

theorem PrS.below {w w' : World} {v : Value} {S : List Nat} {p : Pr} (h : PrS w v S p) (hb : Below w.heap.size w w') : PrS w' v S p := h.keep (Chg.of_below (S := []) hb) (by simp)
/-- A prop behind v, in memory that is new since w0. -/
def PSt (w0 : World) (v : Value) (p : Pr) (W : World) : Prop := ∃ S, PrS W v S p ∧ Below w0.heap.size w0 W ∧ ∀ i ∈ S, w0.heap.size ≤ i
section
variable {w0 W : World} {v : Value} {p : Pr}
theorem PSt.bel (h : PSt w0 v p W) : Below w0.heap.size w0 W := by obtain ⟨S, _, h, _⟩ := h; exact h
theorem PSt.wf (h : PSt w0 v p W) : PrW p := by obtain ⟨S, h, _⟩ := h; exact h.wf
theorem PSt.ptr (h : PSt w0 v p W) : ∃ q, v = .pointer (some ⟨q, 0, none⟩) := by obtain ⟨S, h, _⟩ := h; exact h.ptr
theorem PSt.keep {W' : World} (h : PSt w0 v p W) (hb : Below W.heap.size W W') : PSt w0 v p W' := by
  obtain ⟨S, h1, h2, h3⟩ := h
  exact ⟨S, h1.below hb, h2.trans (hb.mono h2.size), h3⟩
theorem PSt.drew (h : PSt w0 v p W) : PSt w0 v p W.drew := h.keep (Below.refl _ _).drew
/-- What a call on it leaves. -/
theorem ps {R : Value → Pr → Prop} {f : Nat} {args : Array Value} (h : PSt w0 v p W) (hc : ∀ S, PrS W v S p → Calls Try.prog f args W (PPost W v S R)) : Calls Try.prog f args W fun e w' => ∃ r p', R r p' ∧ e = .returned r ∧ PSt w0 v p' w' := by
  obtain ⟨S, h1, h2, h3⟩ := h
  refine (hc S h1).mono fun e w' hp => ?_
  obtain ⟨r, p', hR, he, ⟨S', hG, hF⟩, hC⟩ := hp
  exact ⟨r, p', hR, he, S', hG, hC.below h2 h2.size h3, fun i hi => (hF i hi).elim (h3 i) (fun h' => Nat.le_trans h2.size h')⟩
theorem PSt.use {P : Prop} (h : PSt w0 v p W) (hc : ∀ S, PrS W v S p → P) : P := by
  obtain ⟨S, h1, _⟩ := h
  exact hc S h1

theorem ps_new (hb : Below w0.heap.size w0 W) (n : Int) (h1 : -9223372036854775808 ≤ n) (h2 : n ≤ 9223372036854775807) : Calls Try.prog 27 #[.int .i64 n] W fun e w' => ∃ v, e = .returned v ∧ PSt w0 v (newP n) w' :=
  (pnew_any W n h1 h2).mono fun e w' ⟨v, S, he, hS, hn, hb'⟩ => ⟨v, he, S, hS, hb.trans (hb'.mono hb.size), fun i hi => Nat.le_trans hb.size (hn i hi)⟩

theorem ps_grow (h : PSt w0 v p W) (n : Int) (h1 : -9223372036854775808 ≤ n) (h2 : n ≤ 9223372036854775807) : Calls Try.prog 58 #[v, .int .i64 n] W fun e w' => e = .returned (.tuple #[]) ∧ PSt w0 v (growP p n) w' :=
  (ps h fun S hS => pgrow_any W hS n h1 h2).mono fun e w' ⟨r, p', ⟨e1, e2⟩, he, hp⟩ => ⟨by rw [he, e1], by rw [← e2]; exact hp⟩

theorem ps_dec (h : PSt w0 v p W) (l : Int) (h1 : -9223372036854775807 ≤ l) (h2 : l ≤ 9223372036854775807) : Calls Try.prog 28 #[v, .int .i64 l] W fun e w' => e = .returned (.bool (decOk p l)) ∧ PSt w0 v (decdP p l) w' :=
  (ps h fun S hS => pdec_any W hS l h1 h2).mono fun e w' ⟨r, p', ⟨e1, e2⟩, he, hp⟩ => ⟨by rw [he, e1], by rw [← e2]; exact hp⟩

theorem ps_back (h : PSt w0 v p W) (k : Int) (h1 : -9223372036854775808 ≤ k) (h2 : k ≤ 9223372036854775807) : Calls Try.prog 17 #[v, .int .i64 k] W fun e w' => e = .returned (.tuple #[]) ∧ PSt w0 v (backP p k) w' :=
  (ps h fun S hS => pback_any W hS k h1 h2).mono fun e w' ⟨r, p', ⟨e1, e2⟩, he, hp⟩ => ⟨by rw [he, e1], by rw [← e2]; exact hp⟩

theorem ps_prop (h : PSt w0 v p W) (hc : p.cl.length ≤ 1000) : Calls Try.prog 19 #[v] W fun e w' => ∃ x p', PrpR p x p' ∧ e = .returned (.int .i64 x) ∧ PSt w0 v p' w' :=
  (ps h fun S hS => pprop_any W hS hc).mono fun e w' ⟨r, p', ⟨x, e1, e2⟩, he, hp⟩ => ⟨x, p', e2, by rw [he, e1], hp⟩

/-- A right clause that says something. -/
theorem ps_add (h : PSt w0 v p W) (u : Value) (xs : List Int) (hu : Row W u xs) (hx : InW xs) (hn : xs.length ≤ 1000) (hc : p.cl.length ≤ 1000) (hok : addOk p.n xs = true) : Calls Try.prog 18 #[v, u] W fun e w' => ∃ c, NrmP xs c ∧ e = .returned (.tuple #[.int .i64 (p.cl.length : Int), .bool true]) ∧ PSt w0 v (addP p c) w' :=
  (ps h fun S hS => padd_any W hS u xs hu hx hn hc).mono fun e w' ⟨r, p', hR, he, hp⟩ => by
    rcases hR with ⟨_, c, h1, h2, h3⟩ | ⟨h0, _⟩
    · exact ⟨c, h1, by rw [he, h2], by rw [← h3]; exact hp⟩
    · rw [hok] at h0; cases h0

theorem ps_addN (h : PSt w0 v p W) (u : Value) (xs : List Int) (hu : Row W u xs) (hx : InW xs) (hn : xs.length ≤ 1000) (hc : p.cl.length ≤ 1000) (hok : addOk p.n xs = false) : Calls Try.prog 18 #[v, u] W fun e w' => ∃ x : Int, e = .returned (.tuple #[.int .i64 x, .bool false]) ∧ PSt w0 v p w' :=
  (ps h fun S hS => padd_any W hS u xs hu hx hn hc).mono fun e w' ⟨r, p', hR, he, hp⟩ => by
    rcases hR with ⟨h0, _⟩ | ⟨_, h1, x, h2⟩
    · rw [hok] at h0; cases h0
    · exact ⟨x, by rw [he, h2], by rw [← h1]; exact hp⟩

end
/-! ### What is told in a call -/
theorem row_cells (W : World) (xs : List Int) (hn : 0 < xs.length) (hm : xs.length ≤ 1000) : Row (W.alloc (.cells (xs.map (Value.int .i64)).toArray 3)) (.slice (some ⟨W.heap.size, 0, none⟩) xs.length xs.length) xs := by
  refine ⟨_, _, rfl, Nat.le_refl _, by unfold maxLen; omega, .inr ⟨_, _, rfl, by simp, fun j hj => ?_⟩⟩
  rw [World.cell?_alloc_at _ _ _ _ rfl]
  simp [List.getD, hj]
theorem row1 (W : World) (x : Int) : Row (W.alloc (.cells #[.int .i64 x] 3)) (.slice (some ⟨W.heap.size, 0, none⟩) 1 1) [x] := row_cells W [x] (by simp) (by simp)
theorem row2 (W : World) (x y : Int) : Row (W.alloc (.cells #[.int .i64 x, .int .i64 y] 3)) (.slice (some ⟨W.heap.size, 0, none⟩) 2 2) [x, y] := row_cells W [x, y] (by simp) (by simp)
theorem row3 (W : World) (x y z : Int) : Row (W.alloc (.cells #[.int .i64 x, .int .i64 y, .int .i64 z] 3)) (.slice (some ⟨W.heap.size, 0, none⟩) 3 3) [x, y, z] := row_cells W [x, y, z] (by simp) (by simp)
theorem PSt.alloc {w0 W : World} {v : Value} {p : Pr} (h : PSt w0 v p W) (o : Obj) : PSt w0 v p (W.alloc o) := h.keep ((Below.refl _ _).alloc (Nat.le_refl _) _)

/-- A unit clause is all there is: then it is true. -/
theorem unit_prop {p p' : Pr} {x l : Int} (h : PrpR p x p') (hc : p.cl = [some [l]]) (ht : p.tr = []) (hs : p.st = []) : x = -1 ∧ p'.tr = [l] ∧ p'.st = [] ∧ p'.n = p.n := by
  obtain ⟨h1, h2, h3, _, hw, hr⟩ := h
  have hD : decP p' = [] := by unfold decP; rw [h3, hs]; rfl
  have hC : clsP p' = [[l]] := by unfold clsP; rw [h2, hc]; rfl
  have hz := plc_zero' ((hw.cls [l] (by rw [hC]; simp)).2 l (by simp)).1.1
  have hst : p'.st = [] := by rw [h3, hs]
  have hall : ∀ k ∈ p'.tr, k = l := by
    have : ∀ k, Fol [[l]] [] k → k = l := fun k hf => by
      cases hf with
      | dec h => simp at h
      | unit h1 h2 _ => simp at h1; subst h1; simpa using h2
    intro k hk
    have := this k (by rw [← hC, ← hD]; exact hw.fol hk)
    exact this
  have hx : x = -1 := by
    rcases hr with ⟨h, _⟩ | ⟨k, c, _, hk, hf⟩
    · exact h
    · exfalso
      rw [h2, hc] at hk
      have e : c = [l] := by
        cases k with
        | zero => simpa using hk.symm
        | succ k => simp at hk
      subst e
      have := hall _ (hf l (by simp))
      omega
  refine ⟨hx, ?_, hst, h1⟩
  have hl : l ∈ p'.tr := by
    rcases hr with ⟨_, hcl⟩ | ⟨k, c, e, _⟩
    · rcases hcl [l] (by rw [hC]; simp) with ⟨a, ha, hat⟩ | ⟨a, ha, b, hb, hne, _⟩
      · simp at ha; subst ha; exact hat
      · simp at ha hb; subst ha; subst hb; exact absurd rfl hne
    · rw [hx] at e; omega
  have hlen : p'.tr.length ≤ 1 := by
    rcases Nat.lt_or_ge 1 p'.tr.length with h | h
    · exfalso
      have := List.pairwise_iff_getElem.1 hw.one 0 1 (by omega) h (by omega)
      exact this (by rw [hall _ (List.getElem_mem _), hall _ (List.getElem_mem _)])
    · exact h
  match htr : p'.tr, hl, hlen, hall with
  | [], hl, _, _ => simp at hl
  | [a], _, _, ha => rw [ha a (by simp)]
  | a :: b :: r, _, hlen, _ => simp at hlen
theorem nrm_one {l : Int} {c : List Int} (h : NrmP [l] c) : c = [l] := by
  obtain ⟨h1, h2⟩ := h
  match c, h1, h2 with
  | [], _, h2 => exact absurd ((h2 l).2 (by simp)) (by simp)
  | [a], _, h2 => have := (h2 a).1 (by simp); simp at this; rw [this]
  | a :: b :: r, h1, h2 =>
    have e1 := (h2 a).1 (by simp)
    have e2 := (h2 b).1 (by simp)
    simp at e1 e2
    subst e1; subst e2
    simp at h1

end Go.Proofs.Ytjlmooimdogmjaa
