/- The clauses told to a prop with their ids ('TellS'): what adding and dropping leave; they are the same clauses as those that are there. No conditions beyond those typed. · Small facts on clauses that were made and told. No conditions beyond those typed. · The contract of skolemref.Clauses: a row of the call's own of the same rows. Conditions: the row's cells are slices, and it is short. · From the way in which an argument is handed over (a row of ints in memory) to 'RowAt'. No conditions beyond those typed. · What a prop is told ('skolemlaw15.Do': two ints and a row of ints each), as it lies in memory, from the way in which the argument is handed over. No conditions beyond those typed. · What PropPlays keeps in its first loop: its prop, the clauses that were told, their ids. No conditions beyond those typed. -/
import Derived.Test.YtjlmooimdogmjaaLg32
import Derived.Test.YtjlmooimdogmjaaLg04
import Derived.Test.YtjlmooimdogmjaaLg31
import Derived.Test.YtjlmooimdogmjaaLg30
import Derived.Test.YtjlmooimdogmjaaLg13
import Derived.Test.YtjlmooimdogmjaaLg00
import Derived.OpenShut
import Derived.Test.YtjlmooimdogmjaaRows
import Derived.Deep.Slices
import Derived.Deep.Matrix
import Derived.Lib.SmallJoins
import Derived.Test.YtjlmooimdogmjaaLg34
import Derived.Test.YtjlmooimdogmjaaLg35
import Derived.Deep.LoopGhost
import Derived.Deep.CutBlock
import Derived.Deep.DeepCutAuto
set_option linter.unusedVariables false
set_option linter.unusedSimpArgs false
set_option linter.unusedVariables false
set_option linter.unusedSimpArgs false
namespace Go.Proofs.Ytjlmooimdogmjaa
open Go.RowKit

/-- Clauses with their ids: just those that are there. -/
structure TellS (p : Pr) (qs : List (List Int × Nat)) : Prop where
  nd : (qs.map Prod.snd).Nodup
  one : ∀ x ∈ qs, ∃ c, p.cl.getD x.2 none = some c ∧ NrmP x.1 c
  all : ∀ i c, p.cl.getD i none = some c → ∃ x ∈ qs, x.2 = i
theorem TellS.nil {p : Pr} (h : p.cl = []) : TellS p [] := ⟨by simp, by simp, fun i c hc => by rw [h] at hc; simp at hc⟩
theorem TellS.cl {p q : Pr} {qs : List (List Int × Nat)} (h : TellS p qs) (e : q.cl = p.cl) : TellS q qs := ⟨h.nd, fun x hx => by rw [e]; exact h.one x hx, fun i c hc => h.all i c (by rw [← e]; exact hc)⟩
theorem TellS.lt {p : Pr} {qs : List (List Int × Nat)} (h : TellS p qs) : ∀ x ∈ qs, x.2 < p.cl.length := fun x hx => by
  obtain ⟨c, hc, _⟩ := h.one x hx
  rcases Nat.lt_or_ge x.2 p.cl.length with h | h
  · exact h
  · simp [List.getD, List.getElem?_eq_none h] at hc
theorem TellS.add {p : Pr} {qs : List (List Int × Nat)} {xs c : List Int} (h : TellS p qs) (hc : NrmP xs c) : TellS (addP p c) (qs ++ [(xs, p.cl.length)]) := by
  have hold : ∀ i, i < p.cl.length → (addP p c).cl.getD i none = p.cl.getD i none := fun i hi => by
    unfold addP; simp [List.getD, List.getElem?_append_left hi]
  have hnew : (addP p c).cl.getD p.cl.length none = some c := by unfold addP; simp [List.getD]
  refine ⟨?_, fun x hx => ?_, fun i d hd => ?_⟩
  · rw [List.map_append, List.nodup_append]
    refine ⟨h.nd, by simp, fun a ha b hb => ?_⟩
    obtain ⟨x, hx, rfl⟩ := List.mem_map.1 ha
    simp at hb
    subst hb
    have := h.lt x hx
    omega
  · rcases List.mem_append.1 hx with hx | hx
    · obtain ⟨d, hd, hn⟩ := h.one x hx
      exact ⟨d, by rw [hold _ (h.lt x hx)]; exact hd, hn⟩
    · simp at hx
      subst hx
      exact ⟨c, hnew, hc⟩
  · by_cases hi : i < p.cl.length
    · rw [hold i hi] at hd
      obtain ⟨x, hx, e⟩ := h.all i d hd
      exact ⟨x, List.mem_append_left _ hx, e⟩
    · by_cases e : i = p.cl.length
      · subst e
        exact ⟨(xs, p.cl.length), by simp, rfl⟩
      · unfold addP at hd
        simp [List.getD, List.getElem?_eq_none (show (p.cl ++ [some c]).length ≤ i by simp; omega)] at hd
/-- The k-th one dropped. -/
theorem TellS.drop {p : Pr} {qs : List (List Int × Nat)} (h : TellS p qs) {k : Nat} (hk : k < qs.length) (hok : dropOk p (qs[k].2 : Int) = true) : TellS (dropP p (qs[k].2 : Int)) (qs.take k ++ qs.drop (k + 1)) := by
  have e : (dropP p (qs[k].2 : Int)).cl = p.cl.set qs[k].2 none := by unfold dropP; rw [if_pos hok, Int.toNat_natCast]
  have hg : ∀ i, i ≠ qs[k].2 → (dropP p (qs[k].2 : Int)).cl.getD i none = p.cl.getD i none := fun i hi => by
    rw [e]; simp [List.getD, List.getElem?_set_ne (fun e => hi e.symm)]
  have hsub : (qs.take k ++ qs.drop (k + 1)).Sublist qs := by
    have := List.eraseIdx_sublist qs k
    rwa [List.eraseIdx_eq_take_drop_succ] at this
  have hsp : qs = qs.take k ++ qs[k] :: qs.drop (k + 1) := by
    conv => lhs; rw [← List.take_append_drop k qs]
    rw [List.drop_eq_getElem_cons hk]
  have hne : ∀ x ∈ qs.take k ++ qs.drop (k + 1), x.2 ≠ qs[k].2 := fun x hx hE => by
    have hn := h.nd
    rw [hsp, List.map_append, List.map_cons, List.nodup_append, List.nodup_cons] at hn
    rcases List.mem_append.1 hx with hx | hx
    · exact hn.2.2 x.2 (List.mem_map_of_mem hx) qs[k].2 (by simp) hE
    · exact hn.2.1.1 (by rw [← hE]; exact List.mem_map_of_mem hx)
  refine ⟨(hsub.map Prod.snd).nodup h.nd, fun x hx => ?_, fun i c hc => ?_⟩
  · rw [hg _ (hne x hx)]
    exact h.one x (hsub.subset hx)
  · by_cases hi : i = qs[k].2
    · subst hi
      rw [e] at hc
      have := h.lt _ (List.getElem_mem hk)
      simp [List.getD, this] at hc
    · rw [hg i hi] at hc
      obtain ⟨x, hx, rfl⟩ := h.all i c hc
      refine ⟨x, ?_, rfl⟩
      rw [hsp] at hx
      rcases List.mem_append.1 hx with hx | hx
      · exact List.mem_append_left _ hx
      · rcases List.mem_cons.1 hx with rfl | hx
        · exact absurd rfl hi
        · exact List.mem_append_right _ hx
theorem TellS.same {p : Pr} {qs : List (List Int × Nat)} (h : TellS p qs) : SameC (qs.map Prod.fst) (clsP p) := by
  refine ⟨fun c hc => ?_, fun c hc => ?_⟩
  · obtain ⟨x, hx, rfl⟩ := List.mem_map.1 hc
    obtain ⟨d, hd, hn⟩ := h.one x hx
    exact ⟨d, mem_clsP.2 ⟨_, hd⟩, hn.2⟩
  · obtain ⟨i, hi⟩ := mem_clsP.1 hc
    obtain ⟨x, hx, rfl⟩ := h.all i c hi
    obtain ⟨d, hd, hn⟩ := h.one x hx
    rw [hi] at hd
    injection hd with hd
    subst hd
    exact ⟨x.1, List.mem_map_of_mem hx, fun y => (hn.2 y).symm⟩
theorem dropP_tr {p : Pr} (i : Int) : (dropP p i).tr = p.tr ∧ (dropP p i).st = p.st ∧ (dropP p i).n = p.n ∧ (dropP p i).cl.length = p.cl.length := by
  unfold dropP
  split
  · exact ⟨rfl, rfl, rfl, by simp⟩
  · exact ⟨rfl, rfl, rfl, rfl⟩
/-- Right literals: told, and something said, is the same as what the document's Norm says. -/
theorem addOk_says {n : Nat} {xs : List Int} (h : ∀ x ∈ xs, 1 ≤ plc x ∧ plc x ≤ n) : addOk n xs = saysL xs := by
  rw [Bool.eq_iff_iff, saysL_iff]
  unfold addOk
  rw [decide_eq_true_iff]
  constructor
  · exact fun hh x hx _ => (hh x hx).2
  · exact fun hh x hx => ⟨h x hx, hh x hx (plc_zero' (h x hx).1)⟩
end Go.Proofs.Ytjlmooimdogmjaa

set_option linter.unusedVariables false
set_option linter.unusedSimpArgs false
namespace Go.Proofs.Ytjlmooimdogmjaa
open Go.RowKit

theorem row_at {w : World} {a : Option Addr} {n c : Nat} {xs : List Int} (h : Row w (.slice a n c) xs) : n = xs.length ∧ RowAt w a c xs := by
  obtain ⟨a', c', e, h⟩ := h
  injection e with e1 e2 e3
  subst e1; subst e3
  exact ⟨e2, h⟩
/-- The clauses that were made are right ones. -/
theorem made_in {xss : List (List Int)} {m : Int} (hm : m ≤ 4000) (h : ∀ c ∈ xss, ∀ l ∈ c, l ≠ 0 ∧ isF l m = true) : ∀ c ∈ xss, InW c := fun c hc l hl => by
  have := (h c hc l hl).2
  unfold isF at this
  simp at this
  omega
theorem made_len {xss : List (List Int)} {n : Nat} (h : (xss.map List.length).sum ≤ n) : ∀ c ∈ xss, c.length ≤ n := by
  induction xss generalizing n with
  | nil => intro c hc; cases hc
  | cons x xss ih =>
    simp at h
    intro c hc
    rcases List.mem_cons.1 hc with rfl | hc
    · omega
    · exact ih (n := n) (by omega) c hc
theorem getD_memL {l : List (List Int)} {i : Nat} (h : i < l.length) : l.getD i [] ∈ l := by simp [List.getD, h]
theorem AddR.keepN {p p' : Pr} {xs : List Int} {b : Bool} (h : AddR p xs b p') : p'.n = p.n ∧ p'.st = p.st ∧ p'.tr = p.tr ∧ p'.cl.length ≤ p.cl.length + 1 := by
  rcases h with ⟨_, _, c, _, rfl⟩ | ⟨_, _, rfl⟩
  · exact ⟨rfl, rfl, rfl, by simp [addP]⟩
  · exact ⟨rfl, rfl, rfl, by omega⟩
end Go.Proofs.Ytjlmooimdogmjaa

set_option linter.unusedVariables false
set_option linter.unusedSimpArgs false
namespace Go.Proofs.Ytjlmooimdogmjaa
open Go.RowKit

/-- A row of slices, as it reads. -/
def nilSl : Value := .slice none 0 0
def HRow (w : World) (v : Value) (us : List Value) : Prop :=
  ∃ a c, v = .slice a us.length c ∧ us.length ≤ c ∧ c ≤ maxLen ∧ (us.length = 0 ∨ ∃ b off, a = some ⟨b, off, none⟩ ∧ b < w.heap.size ∧ ∀ j, j < us.length → w.cell? ⟨b, off + j, none⟩ = some (us.getD j nilSl))
def IsS (u : Value) : Prop := ∃ a n c, u = .slice a n c
theorem HRow.keep {w w' : World} {v : Value} {us : List Value} (h : HRow w v us) (hb : Below w.heap.size w w') : HRow w' v us := by
  obtain ⟨a, c, e, h1, h2, h3⟩ := h
  exact ⟨a, c, e, h1, h2, h3.imp id fun ⟨b, off, e, h4, h5⟩ => ⟨b, off, e, Nat.lt_of_lt_of_le h4 hb.size, fun j hj => (hb.cell (p := ⟨b, off + j, none⟩) h4).trans (h5 j hj)⟩⟩
theorem HRow.own {w : World} {B : Nat} {v : Value} {n : Nat} {us : List Value} (h : w.ownsRow B 22 1 v n us) (hl : us.length = n) : HRow w v us := by
  subst hl
  rcases h.2 with ⟨e0, e1⟩ | ⟨g, cap, cur, e0, hg, hh, h1, h2, _⟩
  · exact ⟨none, 0, by rw [e0, e1], by omega, by unfold maxLen; omega, .inl e1⟩
  · refine ⟨_, cap, e0, h1, h2, ?_⟩
    subst e0
    have hgl : g < w.heap.size := by
      rcases Nat.lt_or_ge g w.heap.size with h' | h'
      · exact h'
      · rw [Array.getElem?_eq_none h'] at hh; cases hh
    refine .inr ⟨g, 0, rfl, hgl, fun j hj => ?_⟩
    have hc := h.cells (g := g) rfl j _ (show us[j]? = some (us.getD j nilSl) by simp [List.getD, hj])
    rwa [show (⟨g, 0, none⟩ : Addr).add j = ⟨g, 0 + j, none⟩ by unfold Addr.add; split <;> simp_all] at hc
/-- A part of such a row. -/
theorem HRow.head {w : World} {a : Option Addr} {n c : Nat} {us : List Value} (h : HRow w (.slice a n c) us) {k : Nat} (hk : k ≤ us.length) : HRow w (.slice a k c) (us.take k) := by
  obtain ⟨a', c', e, h1, h2, h3⟩ := h
  injection e with e1 e2 e3
  subst e1; subst e3
  have hl : (us.take k).length = k := by simp; omega
  refine ⟨a, c, by rw [hl], by omega, h2, ?_⟩
  rw [hl]
  rcases h3 with h3 | ⟨b, off, e, h4, h5⟩
  · left; omega
  · right
    refine ⟨b, off, e, h4, fun j hj => ?_⟩
    rw [h5 j (by omega)]
    simp [List.getD, List.getElem?_take, hj]
theorem take_snocV (us : List Value) (k : Nat) (h : k < us.length) : us.take (k + 1) = us.take k ++ [us.getD k nilSl] := by
  rw [List.take_succ_eq_append_getElem h]
  simp [List.getD, h]
set_option maxHeartbeats 1000000 in
/-- 'make([][]int, 0, n)'. -/
theorem wpList_make0R {ops : Array Oper} {rest : List Oper} {o : Oper} {a : Act} {Q : Exit → Act → World → Prop} (hgd : o.guard = none) (l c : Operand) (ho : o.op = Op.makeSlice 25 l c)
    (w : World) (n : Nat) (hl : a.eval l = .int .i64 0) (hc : a.eval c = .int .i64 (n : Int)) (hn : n < 1099511627776)
    (h : ∀ w', w'.ownsRow w.heap.size 22 1 (.slice (some ⟨w.heap.size, 0, none⟩) 0 n) 0 [] → Below w.heap.size w w' → wpList Try.prog ops Q rest (a.put o.dst (.slice (some ⟨w.heap.size, 0, none⟩) 0 n)) w') :
    wpList Try.prog ops Q (o :: rest) a w := by
  obtain ⟨i0, hi, hz0, hz1, hz2⟩ := info_parts infoInts
  refine wpList_make_own _ hgd l c 25 ho w.heap.size 22 i0 (.slice none 0 0) 1 Try.underlying25 hi hz0 hz1 _ _ _ n hl hc rfl (by rw [hz2]; omega) (by unfold maxLen; omega) (Nat.le_refl _) ?_
  intro w' h1 h2
  exact h w' (by simpa using h1) ((Below.refl _ w).grown h2 (Nat.le_refl _) fun k hk => by cases hk)

set_option maxRecDepth 4000 in
set_option maxHeartbeats 2000000 in
theorem clsR_any (v : Value) (us : List Value) (w : World) (hv : HRow w v us) (hs : ∀ u ∈ us, IsS u) (hn : us.length ≤ 1000) :
    Calls Try.prog 50 #[v] w fun e w' => ∃ o, e = .returned o ∧ w'.ownsRow w.heap.size 22 1 o us.length us ∧ Below w.heap.size w w' := by
  obtain ⟨a, c, rfl, hxc, hcm, hx⟩ := hv
  unfold maxLen at hcm
  have HX := Lib.hid hx; clear hx
  have HS : Hid (∀ k, k < us.length → IsS (us.getD k nilSl)) := fun k hk => hs _ (by simp [List.getD, hk])
  clear hs
  generalize hN : us.length = n at *
  have HN := Lib.hid hN; clear hN
  go_enter Try.func50, Try.ntmps50
  go_wp2_with (at_make; refine wpList_make0R rfl _ _ rfl _ n rfl rfl (by omega) ?_; intro w1 hown hb1)
  go_loopw [3, 4] (fun o i wr => ∃ k : Nat, k ≤ n ∧ i = .int .i64 k ∧ wr.ownsRow w.heap.size 22 1 o k (us.take k) ∧ Below w.heap.size w wr) (fun _ i _ => n - (intOf i).toNat)
  case atStart => exact ⟨0, Nat.zero_le _, rfl, by simpa using hown, hb1⟩
  case round =>
    obtain ⟨k, hk, rfl, hownr, hbr⟩ := hrel
    clear hown hb1
    by_cases hlt : k < n
    · obtain ⟨b, off, ha, hb, hc⟩ := HX.out.resolve_left (by omega)
      subst ha
      have g1 : wr.cell? ⟨b, off + k, none⟩ = some (us.getD k nilSl) := (hbr.cell (p := ⟨b, off + k, none⟩) hb).trans (hc k hlt)
      have hsh := HS.out k hlt
      clear hc
      have HT := Lib.hid (take_snocV us k (by rw [HN.out]; exact hlt))
      generalize us.getD k nilSl = y at *
      obtain ⟨ya, yn, yc, rfl⟩ := hsh
      have HBR := Lib.hid hbr
      clear hbr
      go_wp2_with (at_builtin; refine wpList_appV 25 22 (.slice none 0 0) 24 Try.underlying25 infoInts rfl (by decide) rfl _ _ rfl wr w.heap.size _ _ _ _ rfl hownr HBR.out.size (by omega) _ rfl rfl rfl ?_; intro o2 w2 ho2 hap)
      go_roundw
      case rel => exact ⟨k + 1, by omega, by go_num, by rw [HT.out]; exact ho2, HBR.out.trans hap.below⟩
      case measure => simp [intOf]; omega
    · have hkn : k = n := by omega
      rw [hkn, List.take_of_length_le (by rw [HN.out]; exact Nat.le_refl _)] at hownr
      clear hkn
      go_wp2
      go_ret
      exact ⟨_, rfl, hownr, hbr⟩
end Go.Proofs.Ytjlmooimdogmjaa

namespace Go.Proofs.Ytjlmooimdogmjaa
open Go.RowKit

theorem rowOf {w : World} {a : Option Addr} {len cap : Nat} {zs : List Int}
    (h : (a = none ∧ len = 0 ∧ cap = 0 ∧ zs = []) ∨ ∃ x, a = some x ∧ len ≤ cap ∧ cap ≤ maxLen ∧ zs.length = cap ∧ (∀ i, i < zs.length → w.cell? (x.add i) = some (.int .i64 (zs.getD i 0))) ∧ ∀ n ∈ zs, (Lit.int .i64 n).wf = true) :
    ∃ xs : List Int, xs.length = len ∧ RowAt w a cap xs ∧ ∀ y ∈ xs, -9223372036854775808 ≤ y ∧ y ≤ 9223372036854775807 := by
  rcases h with ⟨rfl, rfl, rfl, rfl⟩ | ⟨x, rfl, hl, hm, hz, hc, hw⟩
  · exact ⟨[], rfl, ⟨by simp, by unfold maxLen; omega, .inl rfl⟩, by simp⟩
  · refine ⟨zs.take len, by simp; omega, ⟨by simp; omega, hm, ?_⟩, fun y hy => bounds_i64 (hw y (List.mem_of_mem_take hy))⟩
    by_cases h0 : len = 0
    · left; simp [h0]
    · right
      obtain ⟨b, off, spot⟩ := x
      have h1 := hc 0 (by omega)
      have hs : spot = none := by simpa [Addr.add] using World.cell?_spot h1
      subst hs
      refine ⟨b, off, rfl, World.block_lt_of_cell? w _ h1, fun i hi => ?_⟩
      have hi' : i < len := by simp at hi; omega
      have h2 := hc i (by omega)
      have he : (⟨b, off, none⟩ : Addr).add i = ⟨b, off + i, none⟩ := by
        by_cases e : i = 0
        · subst e; rfl
        · simp [Addr.add, e]
      rw [he] at h2
      rw [h2]
      simp [List.getD, hi']
end Go.Proofs.Ytjlmooimdogmjaa

namespace Go.Proofs.Ytjlmooimdogmjaa
open Go.RowKit Go.ChangeShapes Go.WideShapes Go.ChangeAt Go.Deep Go.Joins

abbrev DoR := Int × Int × List Int
def z0R : DoR := (0, 0, [])
def DoRAt (w : World) (a : Option Addr) (c : Nat) (ds : List DoR) : Prop :=
  ds.length ≤ c ∧ c ≤ maxLen ∧ (ds.length = 0 ∨ ∃ b off, a = some ⟨b, off, none⟩ ∧ b < w.heap.size ∧ ∀ i, i < ds.length → w.cell? ⟨b, off + i * 3, none⟩ = some (.int .i64 (ds.getD i z0R).1) ∧ w.cell? ⟨b, off + i * 3 + 1, none⟩ = some (.int .i64 (ds.getD i z0R).2.1) ∧ ∃ v, w.cell? ⟨b, off + i * 3 + 2, none⟩ = some v ∧ Row w v (ds.getD i z0R).2.2)
def bdR (d : DoR) : Prop := (-9223372036854775808 ≤ d.1 ∧ d.1 ≤ 9223372036854775807) ∧ (-9223372036854775808 ≤ d.2.1 ∧ d.2.1 ≤ 9223372036854775807) ∧ ∀ y ∈ d.2.2, -9223372036854775808 ≤ y ∧ y ≤ 9223372036854775807

end Go.Proofs.Ytjlmooimdogmjaa

set_option linter.unusedVariables false
set_option linter.unusedSimpArgs false
namespace Go.Proofs.Ytjlmooimdogmjaa
open Go.RowKit

/-- A clause that is there: where it lies, its literals, its id. -/
abbrev CI := Value × List Int × Nat
def cellsC (ps : List CI) : List Value := ps.map fun x => x.1
def cellsI (ps : List CI) : List Value := ps.map fun x => Value.int .i64 (x.2.2 : Int)
structure CIs (W : World) (TI : Nat → Prop) (p : Pr) (ps : List CI) : Prop where
  rows : ∀ x ∈ ps, RowT W TI x.1 x.2.1
  tell : TellS p (ps.map fun x => x.2)
  rgt : ∀ x ∈ ps, ∀ l ∈ x.2.1, 1 ≤ plc l ∧ plc l < 13
theorem CIs.keep {W W' : World} {TI U : Nat → Prop} {p q : Pr} {ps : List CI} (h : CIs W TI p ps) (hk : Kp TI W W') (hs : ∀ i, TI i → U i) (e : q.cl = p.cl) : CIs W' U q ps :=
  ⟨fun x hx => by
    obtain ⟨a, c, e, h1, h2, h3⟩ := (h.rows x hx).keep hk
    exact ⟨a, c, e, h1, h2, h3.imp id fun ⟨b, off, e, h4, h5, h6⟩ => ⟨b, off, e, h4, hs b h5, h6⟩⟩, h.tell.cl e, h.rgt⟩
/-- What the first loop keeps: the prop p, the clauses with the ids as they were told to q. -/
structure PlA (w W : World) (v : Value) (p q : Pr) (cv iv fv : Value) (xss : List (List Int)) (ps : List CI) : Prop where
  ex : ∃ T TI, PlS w T TI v p [(22, cv, cellsC ps), (3, iv, cellsI ps)] W ∧ RowsT W TI fv xss ∧ CIs W TI q ps
section
variable {w W W1 : World} {v : Value} {p q : Pr} {cv iv fv : Value} {xss : List (List Int)} {ps : List CI}
theorem PlA.keep (h : PlA w W v p q cv iv fv xss ps) (hb : Below W.heap.size W W1) : PlA w W1 v p q cv iv fv xss ps := by
  obtain ⟨T, TI, h1, h2, h3⟩ := h.ex
  exact ⟨T, TI, h1.keep hb, h2.keep (h1.kpB hb), h3.keep (h1.kpB hb) (fun _ h => h) rfl⟩
theorem PlA.bel (h : PlA w W v p q cv iv fv xss ps) : Below w.heap.size w W := by
  obtain ⟨T, TI, h1, _⟩ := h.ex
  exact h1.pt.bel
theorem PlA.add (h : PlA w W v p q cv iv fv xss ps) (u : Value) (xs : List Int) (hu : Row W u xs) (hx : InW xs) (hn : xs.length ≤ 1000) (hc : p.cl.length ≤ 1000) : Calls Try.prog 18 #[v, u] W fun e w' => ∃ (y : Int) (b : Bool) (p' : Pr), AddR p xs b p' ∧ (b = true → y = (p.cl.length : Int)) ∧ e = .returned (.tuple #[.int .i64 y, .bool b]) ∧ PlA w w' v p' q cv iv fv xss ps := by
  obtain ⟨T, TI, h1, h2, h3⟩ := h.ex
  refine (pt_add h1.pt u xs hu hx hn hc).mono fun e w' ⟨y, b, p', hA, hy, he, hP, hK⟩ => ⟨y, b, p', hA, hy, he, T, TI, h1.call hP hK, h2.keep (h1.kpCall hK), h3.keep (h1.kpCall hK) (fun _ h => h) rfl⟩
/-- Appending to the clauses. -/
theorem PlA.ownC (h : PlA w W v p q cv iv fv xss ps) : W.ownsRow w.heap.size 22 1 cv ps.length (cellsC ps) := by
  obtain ⟨T, TI, h1, _⟩ := h.ex
  have := h1.own (22, cv, cellsC ps) (by simp)
  simpa [cellsC] using this
theorem PlA.rowAt (h : PlA w W v p q cv iv fv xss ps) {k : Nat} (hk : k < xss.length) : ∃ a c b off u, fv = .slice a xss.length c ∧ a = some ⟨b, off, none⟩ ∧ b < W.heap.size ∧ W.cell? ⟨b, off + k, none⟩ = some u ∧ Row W u (xss.getD k []) ∧ IsS u := by
  obtain ⟨T, TI, _, h2, _⟩ := h.ex
  obtain ⟨a, c, e, _, _, h3⟩ := h2
  obtain ⟨b, off, e2, h4, _, h6⟩ := h3.resolve_left (by omega)
  obtain ⟨u, h7, h8⟩ := h6 k hk
  obtain ⟨a', c', e', _⟩ := id h8
  exact ⟨a, c, b, off, u, e, e2, h4, h7, h8.row, a', _, c', e'⟩
theorem PlA.ownI {cv' : Value} (h : PlA w W v p q cv iv fv xss ps) (ha : App w.heap.size W W1 cv cv') : W1.ownsRow w.heap.size 3 1 iv ps.length ((ps.map fun x => (x.2.2 : Int)).map (Value.int .i64)) := by
  obtain ⟨T, TI, h1, _⟩ := h.ex
  have ho := h1.own (3, iv, cellsI ps) (by simp)
  have hs := (List.pairwise_cons.1 h1.sep).1 (3, iv, cellsI ps) (by simp)
  have := ha.own ho (by
    cases e : iv.ownBlock with
    | none => exact .inl rfl
    | some g => exact .inr fun e' => hs g e'.symm e)
  simpa [cellsI, Function.comp_def] using this
/-- Both rows appended to: the clause that p has and q has not. -/
theorem PlA.push {W2 : World} {cv' iv' : Value} {k : Nat} {u : Value} {c : List Int} (h : PlA w W v p q cv iv fv xss ps) (hk : k < xss.length) (hu : ∀ a n cc b off, fv = .slice a n cc → a = some ⟨b, off, none⟩ → W.cell? ⟨b, off + k, none⟩ = some u) (hx : ∀ l ∈ xss.getD k [], 1 ≤ plc l ∧ plc l < 13) (hp : p.cl = (addP q c).cl) (hc : NrmP (xss.getD k []) c)
    (ha1 : App w.heap.size W W1 cv cv') (ho1 : W1.ownsRow w.heap.size 22 1 cv' (ps.length + 1) (cellsC ps ++ [u]))
    (ha2 : App w.heap.size W1 W2 iv iv') (ho2 : W2.ownsRow w.heap.size 3 1 iv' (ps.length + 1) (cellsI ps ++ [.int .i64 (q.cl.length : Int)])) :
    PlA w W2 v p p cv' iv' fv xss (ps ++ [(u, xss.getD k [], q.cl.length)]) := by
  obtain ⟨T, TI, h1, h2, h3⟩ := h.ex
  obtain ⟨a, cc, e, _, _, h5⟩ := id h2
  obtain ⟨b, off, e2, h6, _, h7⟩ := h5.resolve_left (by omega)
  obtain ⟨u', h8, h9⟩ := h7 k hk
  have := hu a _ cc b off e e2
  rw [this] at h8
  injection h8 with h8
  subst h8
  have s1 := h1.app (ys := cellsC ps ++ [u]) ha1 (by simpa [cellsC] using ho1)
  have k1 := h1.kpApp ha1
  have s2 := s1.perm (List.Perm.swap _ _ _)
  have s3 := s2.app (ys := cellsI ps ++ [.int .i64 (q.cl.length : Int)]) ha2 (by simpa [cellsI] using ho2)
  have k2 := s2.kpApp ha2
  have s4 := s3.perm (List.Perm.swap _ _ _)
  have kk := k1.trans k2
  refine ⟨_, TI, by simpa [cellsC, cellsI] using s4, h2.keep kk, fun x hx' => ?_, ?_, fun x hx' => ?_⟩
  · rcases List.mem_append.1 hx' with hx' | hx'
    · exact (h3.rows x hx').keep kk
    · simp at hx'
      subst hx'
      exact h9.keep kk
  · rw [List.map_append]
    exact (h3.tell.add hc).cl hp
  · rcases List.mem_append.1 hx' with hx' | hx'
    · exact h3.rgt x hx'
    · simp at hx'
      subst hx'
      exact hx
end

theorem rgt_of {l m : Int} (hm : m = 12) (h : l ≠ 0 ∧ isF l m = true) : 1 ≤ plc l ∧ plc l < 13 := by
  subst hm
  have h2 := h.2
  unfold isF at h2
  simp at h2
  have h3 := plc_absI l
  unfold absI at h3
  split at h3 <;> omega
end Go.Proofs.Ytjlmooimdogmjaa
