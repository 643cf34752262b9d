/- The clauses told to a prop with their ids ('TellS'): what adding and dropping leave; they are the same clauses as those that are there. No conditions beyond those typed. · Small facts on clauses that were made and told. No conditions beyond those typed. · A prop of the call's own beside rows of the call's own that are appended to and laid anew ('PlS'), and rows that only are read. No conditions beyond those typed. · The contract of skolemref.Clauses: a row of the call's own of the same rows. Conditions: the row's cells are slices, and it is short. · What a prop is told ('skolemlaw15.Do': two ints and a row of ints each), as it lies in memory, from the way in which the argument is handed over. No conditions beyond those typed. · What PropPlays keeps in its first loop: its prop, the clauses that were told, their ids. No conditions beyond those typed. · The rows that PropPlays keeps beside its prop in its second loop: the decisions, the levels, the clauses, their ids. No conditions beyond those typed. · The prop of PropPlays beside its rows while one thing is done ('PlG'): what each step leaves. No conditions beyond those typed. · The walk of skolemlaw15.PropPlays: it answers true. Conditions: the arguments read as 64-bit ints. -/
import Derived.Test.YtmlgpnaikdpifaaPrO
import Derived.Test.YtmlgpnaikdpifaaPrL
import Derived.Test.YtmlgpnaikdpifaaRefNorm
import Derived.Test.YtmlgpnaikdpifaaPrT
import Derived.Test.YtmlgpnaikdpifaaClIG
import Derived.Test.YtmlgpnaikdpifaaAppS
import Derived.Test.YtmlgpnaikdpifaaBase
import Derived.Test.YtmlgpnaikdpifaaCheckP
import Derived.Test.YtmlgpnaikdpifaaOpen
import Derived.Test.YtmlgpnaikdpifaaRows
import Derived.OpenShut
import Derived.Deep.Slices
import Derived.Deep.Matrix
import Derived.Lib.SmallJoins
import Derived.Test.YtmlgpnaikdpifaaPrH
import Derived.Deep.LoopGhost
import Derived.Deep.CutBlock
import Derived.Deep.DeepCutAuto
import Derived.Deep.SlicePairs
set_option linter.unusedVariables false
set_option linter.unusedSimpArgs false
namespace Go.Proofs.Ytmlgpnaikdpifaa
open Go.RowKit

/-- Clauses with their ids: just those that are there. -/
structure TellS (p : Pr) (qs : List (List Int × Nat)) : Prop where
  nd : (qs.map Prod.snd).Nodup
  one : ∀ x ∈ qs, ∃ c, p.cl.getD x.2 none = some c ∧ NrmP x.1 c
  all : ∀ i c, p.cl.getD i none = some c → ∃ x ∈ qs, x.2 = i
theorem TellS.nil {p : Pr} (h : p.cl = []) : TellS p [] := ⟨by simp, by simp, fun i c hc => by rw [h] at hc; simp at hc⟩
theorem TellS.cl {p q : Pr} {qs : List (List Int × Nat)} (h : TellS p qs) (e : q.cl = p.cl) : TellS q qs := ⟨h.nd, fun x hx => by rw [e]; exact h.one x hx, fun i c hc => h.all i c (by rw [← e]; exact hc)⟩
theorem TellS.lt {p : Pr} {qs : List (List Int × Nat)} (h : TellS p qs) : ∀ x ∈ qs, x.2 < p.cl.length := fun x hx => by
  obtain ⟨c, hc, _⟩ := h.one x hx
  rcases Nat.lt_or_ge x.2 p.cl.length with h | h
  · exact h
  · simp [List.getD, List.getElem?_eq_none h] at hc
theorem TellS.add {p : Pr} {qs : List (List Int × Nat)} {xs c : List Int} (h : TellS p qs) (hc : NrmP xs c) : TellS (addP p c) (qs ++ [(xs, p.cl.length)]) := by
  have hold : ∀ i, i < p.cl.length → (addP p c).cl.getD i none = p.cl.getD i none := fun i hi => by
    unfold addP; simp [List.getD, List.getElem?_append_left hi]
  have hnew : (addP p c).cl.getD p.cl.length none = some c := by unfold addP; simp [List.getD]
  refine ⟨?_, fun x hx => ?_, fun i d hd => ?_⟩
  · rw [List.map_append, List.nodup_append]
    refine ⟨h.nd, by simp, fun a ha b hb => ?_⟩
    obtain ⟨x, hx, rfl⟩ := List.mem_map.1 ha
    simp at hb
    subst hb
    have := h.lt x hx
    omega
  · rcases List.mem_append.1 hx with hx | hx
    · obtain ⟨d, hd, hn⟩ := h.one x hx
      exact ⟨d, by rw [hold _ (h.lt x hx)]; exact hd, hn⟩
    · simp at hx
      subst hx
      exact ⟨c, hnew, hc⟩
  · by_cases hi : i < p.cl.length
    · rw [hold i hi] at hd
      obtain ⟨x, hx, e⟩ := h.all i d hd
      exact ⟨x, List.mem_append_left _ hx, e⟩
    · by_cases e : i = p.cl.length
      · subst e
        exact ⟨(xs, p.cl.length), by simp, rfl⟩
      · unfold addP at hd
        simp [List.getD, List.getElem?_eq_none (show (p.cl ++ [some c]).length ≤ i by simp; omega)] at hd
/-- The k-th one dropped. -/
theorem TellS.drop {p : Pr} {qs : List (List Int × Nat)} (h : TellS p qs) {k : Nat} (hk : k < qs.length) (hok : dropOk p (qs[k].2 : Int) = true) : TellS (dropP p (qs[k].2 : Int)) (qs.take k ++ qs.drop (k + 1)) := by
  have e : (dropP p (qs[k].2 : Int)).cl = p.cl.set qs[k].2 none := by unfold dropP; rw [if_pos hok, Int.toNat_natCast]
  have hg : ∀ i, i ≠ qs[k].2 → (dropP p (qs[k].2 : Int)).cl.getD i none = p.cl.getD i none := fun i hi => by
    rw [e]; simp [List.getD, List.getElem?_set_ne (fun e => hi e.symm)]
  have hsub : (qs.take k ++ qs.drop (k + 1)).Sublist qs := by
    have := List.eraseIdx_sublist qs k
    rwa [List.eraseIdx_eq_take_drop_succ] at this
  have hsp : qs = qs.take k ++ qs[k] :: qs.drop (k + 1) := by
    conv => lhs; rw [← List.take_append_drop k qs]
    rw [List.drop_eq_getElem_cons hk]
  have hne : ∀ x ∈ qs.take k ++ qs.drop (k + 1), x.2 ≠ qs[k].2 := fun x hx hE => by
    have hn := h.nd
    rw [hsp, List.map_append, List.map_cons, List.nodup_append, List.nodup_cons] at hn
    rcases List.mem_append.1 hx with hx | hx
    · exact hn.2.2 x.2 (List.mem_map_of_mem hx) qs[k].2 (by simp) hE
    · exact hn.2.1.1 (by rw [← hE]; exact List.mem_map_of_mem hx)
  refine ⟨(hsub.map Prod.snd).nodup h.nd, fun x hx => ?_, fun i c hc => ?_⟩
  · rw [hg _ (hne x hx)]
    exact h.one x (hsub.subset hx)
  · by_cases hi : i = qs[k].2
    · subst hi
      rw [e] at hc
      have := h.lt _ (List.getElem_mem hk)
      simp [List.getD, this] at hc
    · rw [hg i hi] at hc
      obtain ⟨x, hx, rfl⟩ := h.all i c hc
      refine ⟨x, ?_, rfl⟩
      rw [hsp] at hx
      rcases List.mem_append.1 hx with hx | hx
      · exact List.mem_append_left _ hx
      · rcases List.mem_cons.1 hx with rfl | hx
        · exact absurd rfl hi
        · exact List.mem_append_right _ hx
theorem TellS.same {p : Pr} {qs : List (List Int × Nat)} (h : TellS p qs) : SameC (qs.map Prod.fst) (clsP p) := by
  refine ⟨fun c hc => ?_, fun c hc => ?_⟩
  · obtain ⟨x, hx, rfl⟩ := List.mem_map.1 hc
    obtain ⟨d, hd, hn⟩ := h.one x hx
    exact ⟨d, mem_clsP.2 ⟨_, hd⟩, hn.2⟩
  · obtain ⟨i, hi⟩ := mem_clsP.1 hc
    obtain ⟨x, hx, rfl⟩ := h.all i c hi
    obtain ⟨d, hd, hn⟩ := h.one x hx
    rw [hi] at hd
    injection hd with hd
    subst hd
    exact ⟨x.1, List.mem_map_of_mem hx, fun y => (hn.2 y).symm⟩
theorem dropP_tr {p : Pr} (i : Int) : (dropP p i).tr = p.tr ∧ (dropP p i).st = p.st ∧ (dropP p i).n = p.n ∧ (dropP p i).cl.length = p.cl.length := by
  unfold dropP
  split
  · exact ⟨rfl, rfl, rfl, by simp⟩
  · exact ⟨rfl, rfl, rfl, rfl⟩
/-- Right literals: told, and something said, is the same as what the document's Norm says. -/
theorem addOk_says {n : Nat} {xs : List Int} (h : ∀ x ∈ xs, 1 ≤ plc x ∧ plc x ≤ n) : addOk n xs = saysL xs := by
  rw [Bool.eq_iff_iff, saysL_iff]
  unfold addOk
  rw [decide_eq_true_iff]
  constructor
  · exact fun hh x hx _ => (hh x hx).2
  · exact fun hh x hx => ⟨h x hx, hh x hx (plc_zero' (h x hx).1)⟩
end Go.Proofs.Ytmlgpnaikdpifaa

set_option linter.unusedVariables false
set_option linter.unusedSimpArgs false
namespace Go.Proofs.Ytmlgpnaikdpifaa
open Go.RowKit

theorem row_at {w : World} {a : Option Addr} {n c : Nat} {xs : List Int} (h : Row w (.slice a n c) xs) : n = xs.length ∧ RowAt w a c xs := by
  obtain ⟨a', c', e, h⟩ := h
  injection e with e1 e2 e3
  subst e1; subst e3
  exact ⟨e2, h⟩
/-- The clauses that were made are right ones. -/
theorem made_in {xss : List (List Int)} {m : Int} (hm : m ≤ 4000) (h : ∀ c ∈ xss, ∀ l ∈ c, l ≠ 0 ∧ isF l m = true) : ∀ c ∈ xss, InW c := fun c hc l hl => by
  have := (h c hc l hl).2
  unfold isF at this
  simp at this
  omega
theorem made_len {xss : List (List Int)} {n : Nat} (h : (xss.map List.length).sum ≤ n) : ∀ c ∈ xss, c.length ≤ n := by
  induction xss generalizing n with
  | nil => intro c hc; cases hc
  | cons x xss ih =>
    simp at h
    intro c hc
    rcases List.mem_cons.1 hc with rfl | hc
    · omega
    · exact ih (n := n) (by omega) c hc
theorem getD_memL {l : List (List Int)} {i : Nat} (h : i < l.length) : l.getD i [] ∈ l := by simp [List.getD, h]
theorem AddR.keepN {p p' : Pr} {xs : List Int} {b : Bool} (h : AddR p xs b p') : p'.n = p.n ∧ p'.st = p.st ∧ p'.tr = p.tr ∧ p'.cl.length ≤ p.cl.length + 1 := by
  rcases h with ⟨_, _, c, _, rfl⟩ | ⟨_, _, rfl⟩
  · exact ⟨rfl, rfl, rfl, by simp [addP]⟩
  · exact ⟨rfl, rfl, rfl, by omega⟩
end Go.Proofs.Ytmlgpnaikdpifaa

set_option linter.unusedVariables false
set_option linter.unusedSimpArgs false
namespace Go.Proofs.Ytmlgpnaikdpifaa
open Go.RowKit

theorem own_kp {T : Nat → Prop} {w w' : World} {B : Nat} {e : TypeId} {size : Nat} {v : Value} {n : Nat} {xs : List Value} (h : w.ownsRow B e size v n xs) (hk : Kp T w w') (hT : ∀ k, v.ownBlock = some k → T k) : w'.ownsRow B e size v n xs := by
  obtain ⟨h1, h2⟩ := h
  refine ⟨h1, ?_⟩
  rcases h2 with h2 | ⟨g, cap, cur, hv, hg, hh, r⟩
  · exact .inl h2
  · subst hv
    exact .inr ⟨g, cap, cur, rfl, hg, (hk.blk g (hT g rfl)).trans hh, r⟩
/-- A row of the call's own: its elements' type, where it lies, its cells. -/
abbrev ORow := TypeId × Value × List Value
structure PlS (w0 : World) (T TI : Nat → Prop) (v : Value) (p : Pr) (rs : List ORow) (W : World) : Prop where
  pt : PT w0 T v p W
  sub : ∀ i, TI i → T i
  own : ∀ r ∈ rs, W.ownsRow w0.heap.size r.1 1 r.2.1 r.2.2.length r.2.2
  blk : ∀ r ∈ rs, ∀ k, r.2.1.ownBlock = some k → T k ∧ ¬ TI k
  sep : rs.Pairwise fun a b => ∀ k, a.2.1.ownBlock = some k → b.2.1.ownBlock ≠ some k
/-- The blocks that are new. -/
def NewB (W W' : World) (i : Nat) : Prop := W.heap.size ≤ i ∧ i < W'.heap.size
section
variable {w0 W W' : World} {T TI : Nat → Prop} {v : Value} {p : Pr} {rs : List ORow}
/-- After a call on the prop. -/
theorem PlS.call {p' : Pr} (h : PlS w0 T TI v p rs W) (hp : PT w0 T v p' W') (hk : Kp T W W') : PlS w0 T TI v p' rs W' :=
  ⟨hp, h.sub, fun r hr => own_kp (h.own r hr) hk (fun k e => (h.blk r hr k e).1), h.blk, h.sep⟩
/-- After what only makes memory. -/
theorem PlS.keep (h : PlS w0 T TI v p rs W) (hb : Below W.heap.size W W') : PlS w0 T TI v p rs W' :=
  ⟨h.pt.keep hb, h.sub, fun r hr => own_keep (h.own r hr) hb, h.blk, h.sep⟩
theorem PlS.perm {qs : List ORow} (h : PlS w0 T TI v p rs W) (hq : rs.Perm qs) : PlS w0 T TI v p qs W :=
  ⟨h.pt, h.sub, fun r hr => h.own r (hq.mem_iff.2 hr), fun r hr => h.blk r (hq.mem_iff.2 hr), (hq.pairwise_iff fun {a b} hab k e1 e2 => hab k e2 e1).1 h.sep⟩
/-- The new memory is kept too, to be read. -/
theorem PlS.read (h : PlS w0 T TI v p rs W) (hb : Below W.heap.size W W') : PlS w0 (fun i => T i ∨ NewB W W' i) (fun i => TI i ∨ NewB W W' i) v p rs W' :=
  ⟨h.pt.more hb fun i hi => hi, fun i hi => hi.imp (h.sub i) id, fun r hr => own_keep (h.own r hr) hb, fun r hr k e => ⟨.inl (h.blk r hr k e).1, fun hi => hi.elim (h.blk r hr k e).2 fun hn => absurd ((h.own r hr).lt k e).2 (Nat.not_lt.2 hn.1)⟩, h.sep⟩
/-- One row more, with nothing in it. -/
theorem PlS.none (h : PlS w0 T TI v p rs W) (e : TypeId) : PlS w0 T TI v p ((e, .slice none 0 0, []) :: rs) W :=
  ⟨h.pt, h.sub, fun r hr => (List.mem_cons.1 hr).elim (fun e => by subst e; exact World.ownsRow_nil _ _ _ _) (h.own r), fun r hr k ek => (List.mem_cons.1 hr).elim (fun e => by subst e; cases ek) (fun hr => h.blk r hr k ek), List.pairwise_cons.2 ⟨fun s _ k ek => (by cases ek), h.sep⟩⟩
theorem PlS.start (h : PSt w0 v p W) : PlS w0 (fun _ => False) (fun _ => False) v p [] W := ⟨h.pt, fun _ h => h, by simp, by simp, List.Pairwise.nil⟩
/-- A row laid anew takes the first one's place. -/
theorem PlS.fresh {r : ORow} (h : PlS w0 T TI v p (r :: rs) W) (hb : Below W.heap.size W W') {e : TypeId} {u : Value} {xs : List Value} (ho : W'.ownsRow W.heap.size e 1 u xs.length xs) : PlS w0 (fun i => T i ∨ NewB W W' i) TI v p ((e, u, xs) :: rs) W' := by
  have hnew : ∀ k, u.ownBlock = some k → NewB W W' k := fun k e => ho.lt k e
  have hTI : ∀ i, TI i → i < W.heap.size := fun i hi => h.pt.tlt i (h.sub i hi)
  refine ⟨h.pt.more hb fun i hi => hi, fun i hi => .inl (h.sub i hi), fun s hs => ?_, fun s hs k ek => ?_, List.pairwise_cons.2 ⟨fun s hs k ek es => ?_, (List.pairwise_cons.1 h.sep).2⟩⟩
  · rcases List.mem_cons.1 hs with rfl | hs
    · exact own_base ho h.pt.bel.size
    · exact own_keep (h.own s (List.mem_cons_of_mem _ hs)) hb
  · rcases List.mem_cons.1 hs with rfl | hs
    · exact ⟨.inr (hnew k ek), fun hi => absurd (hTI k hi) (Nat.not_lt.2 (hnew k ek).1)⟩
    · have := h.blk s (List.mem_cons_of_mem _ hs) k ek
      exact ⟨.inl this.1, this.2⟩
  · exact absurd ((h.own s (List.mem_cons_of_mem _ hs)).lt k es).2 (Nat.not_lt.2 (hnew k ek).1)
/-- The first row appended to. -/
theorem PlS.app {e : TypeId} {u u' : Value} {xs ys : List Value} (h : PlS w0 T TI v p ((e, u, xs) :: rs) W) (ha : App w0.heap.size W W' u u') (ho : W'.ownsRow w0.heap.size e 1 u' ys.length ys) : PlS w0 (fun i => T i ∨ NewB W W' i) TI v p ((e, u', ys) :: rs) W' := by
  have hTI : ∀ i, TI i → i < W.heap.size := fun i hi => h.pt.tlt i (h.sub i hi)
  have hu : ∀ k, u.ownBlock = some k → T k ∧ ¬ TI k := h.blk (e, u, xs) (by simp)
  have hc : Chg (rowB u) W W' := Chg.app ha fun k hk => mem_rowB.2 hk
  have hu' : ∀ k, u'.ownBlock = some k → u.ownBlock = some k ∨ NewB W W' k := fun k hk => by
    rcases ha.blk with e1 | ⟨g, e1, hg⟩
    · exact .inl (e1 ▸ hk)
    · rw [e1] at hk
      injection hk with hk
      subst hk
      exact .inr ⟨hg, (ho.lt g e1).2⟩
  have hsep := List.pairwise_cons.1 h.sep
  have hpt : PT w0 T v p W' := h.pt.chg hc fun i hi => by
    have := mem_rowB.1 hi
    exact ⟨(hu i this).1, ((h.own (e, u, xs) (by simp)).lt i this).1⟩
  have hmo : PT w0 (fun i => T i ∨ NewB W W' i) v p W' := by
    obtain ⟨S, h1, h2, h3, h4⟩ := h.pt
    have hS : PrS W' v S p := h1.keep hc fun i hi hm => (h3 i hi).2 (hu i (mem_rowB.1 hm)).1
    refine ⟨S, hS, hpt.bel, fun i hi => ⟨(h3 i hi).1, fun hT => ?_⟩, fun i hi => ?_⟩
    · rcases hT with hT | hT
      · exact (h3 i hi).2 hT
      · exact absurd (h1.lt i hi) (Nat.not_lt.2 hT.1)
    · exact hi.elim (fun hT => Nat.lt_of_lt_of_le (h4 i hT) hc.size) fun hn => hn.2
  refine ⟨hmo, fun i hi => .inl (h.sub i hi), fun s hs => ?_, fun s hs k ek => ?_, List.pairwise_cons.2 ⟨fun s hs k ek es => ?_, hsep.2⟩⟩
  · rcases List.mem_cons.1 hs with rfl | hs
    · exact ho
    · exact own_chg (h.own s (List.mem_cons_of_mem _ hs)) hc fun k hk hm => hsep.1 s hs k (mem_rowB.1 hm) hk
  · rcases List.mem_cons.1 hs with rfl | hs
    · rcases hu' k ek with e1 | hn
      · exact ⟨.inl (hu k e1).1, (hu k e1).2⟩
      · exact ⟨.inr hn, fun hi => absurd (hTI k hi) (Nat.not_lt.2 hn.1)⟩
    · have := h.blk s (List.mem_cons_of_mem _ hs) k ek
      exact ⟨.inl this.1, this.2⟩
  · rcases hu' k ek with e1 | hn
    · exact hsep.1 s hs k e1 es
    · exact absurd ((h.own s (List.mem_cons_of_mem _ hs)).lt k es).2 (Nat.not_lt.2 hn.1)
/-- Rows that only are read stay as they are, whatever is appended to. -/
theorem PlS.kpApp {e : TypeId} {u u' : Value} {xs : List Value} (h : PlS w0 T TI v p ((e, u, xs) :: rs) W) (ha : App w0.heap.size W W' u u') : Kp TI W W' := by
  have hu : ∀ k, u.ownBlock = some k → T k ∧ ¬ TI k := h.blk (e, u, xs) (by simp)
  have hc : Chg (rowB u) W W' := Chg.app ha fun k hk => mem_rowB.2 hk
  exact ⟨hc.size, fun i hi => hc.block i (h.pt.tlt i (h.sub i hi)) fun hm => (hu i (mem_rowB.1 hm)).2 hi⟩
theorem PlS.kpB (h : PlS w0 T TI v p rs W) (hb : Below W.heap.size W W') : Kp TI W W' := Kp.below hb fun i hi => h.pt.tlt i (h.sub i hi)
theorem PlS.kpCall (h : PlS w0 T TI v p rs W) (hk : Kp T W W') : Kp TI W W' := hk.sub h.sub
end
end Go.Proofs.Ytmlgpnaikdpifaa

set_option linter.unusedVariables false
set_option linter.unusedSimpArgs false
namespace Go.Proofs.Ytmlgpnaikdpifaa
open Go.RowKit

/-- A row of slices, as it reads. -/
def nilSl : Value := .slice none 0 0
def HRow (w : World) (v : Value) (us : List Value) : Prop :=
  ∃ a c, v = .slice a us.length c ∧ us.length ≤ c ∧ c ≤ maxLen ∧ (us.length = 0 ∨ ∃ b off, a = some ⟨b, off, none⟩ ∧ b < w.heap.size ∧ ∀ j, j < us.length → w.cell? ⟨b, off + j, none⟩ = some (us.getD j nilSl))
def IsS (u : Value) : Prop := ∃ a n c, u = .slice a n c
theorem HRow.keep {w w' : World} {v : Value} {us : List Value} (h : HRow w v us) (hb : Below w.heap.size w w') : HRow w' v us := by
  obtain ⟨a, c, e, h1, h2, h3⟩ := h
  exact ⟨a, c, e, h1, h2, h3.imp id fun ⟨b, off, e, h4, h5⟩ => ⟨b, off, e, Nat.lt_of_lt_of_le h4 hb.size, fun j hj => (hb.cell (p := ⟨b, off + j, none⟩) h4).trans (h5 j hj)⟩⟩
theorem HRow.own {w : World} {B : Nat} {v : Value} {n : Nat} {us : List Value} (h : w.ownsRow B 22 1 v n us) (hl : us.length = n) : HRow w v us := by
  subst hl
  rcases h.2 with ⟨e0, e1⟩ | ⟨g, cap, cur, e0, hg, hh, h1, h2, _⟩
  · exact ⟨none, 0, by rw [e0, e1], by omega, by unfold maxLen; omega, .inl e1⟩
  · refine ⟨_, cap, e0, h1, h2, ?_⟩
    subst e0
    have hgl : g < w.heap.size := by
      rcases Nat.lt_or_ge g w.heap.size with h' | h'
      · exact h'
      · rw [Array.getElem?_eq_none h'] at hh; cases hh
    refine .inr ⟨g, 0, rfl, hgl, fun j hj => ?_⟩
    have hc := h.cells (g := g) rfl j _ (show us[j]? = some (us.getD j nilSl) by simp [List.getD, hj])
    rwa [show (⟨g, 0, none⟩ : Addr).add j = ⟨g, 0 + j, none⟩ by unfold Addr.add; split <;> simp_all] at hc
/-- A part of such a row. -/
theorem HRow.head {w : World} {a : Option Addr} {n c : Nat} {us : List Value} (h : HRow w (.slice a n c) us) {k : Nat} (hk : k ≤ us.length) : HRow w (.slice a k c) (us.take k) := by
  obtain ⟨a', c', e, h1, h2, h3⟩ := h
  injection e with e1 e2 e3
  subst e1; subst e3
  have hl : (us.take k).length = k := by simp; omega
  refine ⟨a, c, by rw [hl], by omega, h2, ?_⟩
  rw [hl]
  rcases h3 with h3 | ⟨b, off, e, h4, h5⟩
  · left; omega
  · right
    refine ⟨b, off, e, h4, fun j hj => ?_⟩
    rw [h5 j (by omega)]
    simp [List.getD, List.getElem?_take, hj]
theorem take_snocV (us : List Value) (k : Nat) (h : k < us.length) : us.take (k + 1) = us.take k ++ [us.getD k nilSl] := by
  rw [List.take_succ_eq_append_getElem h]
  simp [List.getD, h]
set_option maxHeartbeats 1000000 in
/-- 'make([][]int, 0, n)'. -/
theorem wpList_make0R {ops : Array Oper} {rest : List Oper} {o : Oper} {a : Act} {Q : Exit → Act → World → Prop} (hgd : o.guard = none) (l c : Operand) (ho : o.op = Op.makeSlice 27 l c)
    (w : World) (n : Nat) (hl : a.eval l = .int .i64 0) (hc : a.eval c = .int .i64 (n : Int)) (hn : n < 1099511627776)
    (h : ∀ w', w'.ownsRow w.heap.size 22 1 (.slice (some ⟨w.heap.size, 0, none⟩) 0 n) 0 [] → Below w.heap.size w w' → wpList Try.prog ops Q rest (a.put o.dst (.slice (some ⟨w.heap.size, 0, none⟩) 0 n)) w') :
    wpList Try.prog ops Q (o :: rest) a w := by
  obtain ⟨i0, hi, hz0, hz1, hz2⟩ := info_parts infoInts
  refine wpList_make_own _ hgd l c 27 ho w.heap.size 22 i0 (.slice none 0 0) 1 Try.underlying27 hi hz0 hz1 _ _ _ n hl hc rfl (by rw [hz2]; omega) (by unfold maxLen; omega) (Nat.le_refl _) ?_
  intro w' h1 h2
  exact h w' (by simpa using h1) ((Below.refl _ w).grown h2 (Nat.le_refl _) fun k hk => by cases hk)

set_option maxRecDepth 4000 in
set_option maxHeartbeats 2000000 in
theorem clsR_any (v : Value) (us : List Value) (w : World) (hv : HRow w v us) (hs : ∀ u ∈ us, IsS u) (hn : us.length ≤ 1000) :
    Calls Try.prog 22 #[v] w fun e w' => ∃ o, e = .returned o ∧ w'.ownsRow w.heap.size 22 1 o us.length us ∧ Below w.heap.size w w' := by
  obtain ⟨a, c, rfl, hxc, hcm, hx⟩ := hv
  unfold maxLen at hcm
  have HX := Lib.hid hx; clear hx
  have HS : Hid (∀ k, k < us.length → IsS (us.getD k nilSl)) := fun k hk => hs _ (by simp [List.getD, hk])
  clear hs
  generalize hN : us.length = n at *
  have HN := Lib.hid hN; clear hN
  go_enter Try.func22, Try.ntmps22
  go_wp2_with (at_make; refine wpList_make0R rfl _ _ rfl _ n rfl rfl (by omega) ?_; intro w1 hown hb1)
  go_loopw [3, 4] (fun o i wr => ∃ k : Nat, k ≤ n ∧ i = .int .i64 k ∧ wr.ownsRow w.heap.size 22 1 o k (us.take k) ∧ Below w.heap.size w wr) (fun _ i _ => n - (intOf i).toNat)
  case atStart => exact ⟨0, Nat.zero_le _, rfl, by simpa using hown, hb1⟩
  case round =>
    obtain ⟨k, hk, rfl, hownr, hbr⟩ := hrel
    clear hown hb1
    by_cases hlt : k < n
    · obtain ⟨b, off, ha, hb, hc⟩ := HX.out.resolve_left (by omega)
      subst ha
      have g1 : wr.cell? ⟨b, off + k, none⟩ = some (us.getD k nilSl) := (hbr.cell (p := ⟨b, off + k, none⟩) hb).trans (hc k hlt)
      have hsh := HS.out k hlt
      clear hc
      have HT := Lib.hid (take_snocV us k (by rw [HN.out]; exact hlt))
      generalize us.getD k nilSl = y at *
      obtain ⟨ya, yn, yc, rfl⟩ := hsh
      have HBR := Lib.hid hbr
      clear hbr
      go_wp2_with (at_builtin; refine wpList_appV 27 22 (.slice none 0 0) 24 Try.underlying27 infoInts rfl (by decide) rfl _ _ rfl wr w.heap.size _ _ _ _ rfl hownr HBR.out.size (by omega) _ rfl rfl rfl ?_; intro o2 w2 ho2 hap)
      go_roundw
      case rel => exact ⟨k + 1, by omega, by go_num, by rw [HT.out]; exact ho2, HBR.out.trans hap.below⟩
      case measure => simp [intOf]; omega
    · have hkn : k = n := by omega
      rw [hkn, List.take_of_length_le (by rw [HN.out]; exact Nat.le_refl _)] at hownr
      clear hkn
      go_wp2
      go_ret
      exact ⟨_, rfl, hownr, hbr⟩
end Go.Proofs.Ytmlgpnaikdpifaa

namespace Go.Proofs.Ytmlgpnaikdpifaa
open Go.RowKit Go.ChangeShapes Go.WideShapes Go.ChangeAt Go.Deep Go.Joins

abbrev DoR := Int × Int × List Int
def z0R : DoR := (0, 0, [])
def DoRAt (w : World) (a : Option Addr) (c : Nat) (ds : List DoR) : Prop :=
  ds.length ≤ c ∧ c ≤ maxLen ∧ (ds.length = 0 ∨ ∃ b off, a = some ⟨b, off, none⟩ ∧ b < w.heap.size ∧ ∀ i, i < ds.length → w.cell? ⟨b, off + i * 3, none⟩ = some (.int .i64 (ds.getD i z0R).1) ∧ w.cell? ⟨b, off + i * 3 + 1, none⟩ = some (.int .i64 (ds.getD i z0R).2.1) ∧ ∃ v, w.cell? ⟨b, off + i * 3 + 2, none⟩ = some v ∧ Row w v (ds.getD i z0R).2.2)
def bdR (d : DoR) : Prop := (-9223372036854775808 ≤ d.1 ∧ d.1 ≤ 9223372036854775807) ∧ (-9223372036854775808 ≤ d.2.1 ∧ d.2.1 ≤ 9223372036854775807) ∧ ∀ y ∈ d.2.2, -9223372036854775808 ≤ y ∧ y ≤ 9223372036854775807

set_option maxRecDepth 8000 in
theorem open_doR {H : Type} {enc : TypeId × Value → H} {W : World} {n : Nat} {v : Value} {y : DataW H × List MemPlace} (h : DataW.trod enc Try.prog W 0 (fun _ => true) true n 23 [v] = some y) :
    ∃ a cap ds, v = .slice a (List.length ds) cap ∧ DoRAt W a cap ds ∧ ∀ d ∈ ds, bdR d := by
  have ce : Try.prog.cellsOf 36 = 3 := by kernel_rfl
  rcases Deep.open_slice Try.underlying23 h with ⟨hcs, _⟩ | ⟨a, len, cap, m, nn, D, Pl, hcs, _, hl, hm, hmm, _, hx⟩
  · simp at hcs
    subst hcs
    exact ⟨none, 0, [], rfl, ⟨Nat.le_refl _, by unfold maxLen; omega, .inl rfl⟩, by simp⟩
  simp at hcs
  subst hcs
  have hlm : len ≤ m := by rw [hmm]; simp; exact hl
  have hi : ∀ i, i < m → ∃ x : DoR, (W.cell? (a.add (i * 3)) = some (.int .i64 x.1) ∧ W.cell? ((a.add (i * 3)).add 1) = some (.int .i64 x.2.1) ∧ ∃ v, W.cell? ((a.add (i * 3)).add 2) = some v ∧ Row W v x.2.2) ∧ bdR x := by
    intro i hi
    obtain ⟨cs, h1, h2⟩ := hx i hi
    rw [ce] at h1
    obtain ⟨_, hlen, hcell⟩ := World.cells?_some h1
    obtain ⟨xs, k, _, _, _, hxl, hf⟩ := DataW.trod_struct Try.underlying36 h2
    have hx3 : xs.length = 3 := hxl
    match xs, hx3, cs, hlen with
    | [y0, y1, y2], _, [v0, v1, v2], _ =>
      have g0 := hf 0 _ rfl
      have g1 := hf 1 _ rfl
      have g2 := hf 2 _ rfl
      have c1 : Try.prog.cellsOf 3 = 1 := by kernel_rfl
      have c2 : Try.prog.cellsOf 22 = 1 := by kernel_rfl
      simp [c1, c2] at g0 g1 g2
      obtain ⟨z0, e0, _, w0⟩ := DataW.trod_int Try.underlying3 g0
      obtain ⟨z1, e1, _, w1⟩ := DataW.trod_int Try.underlying3 g1
      simp only [List.cons.injEq, and_true] at e0 e1
      subst e0; subst e1
      have hrow : ∃ a' cap' zs, v2 = .slice a' (List.length zs) cap' ∧ RowAt W a' cap' zs ∧ ∀ y ∈ zs, -9223372036854775808 ≤ y ∧ y ≤ 9223372036854775807 := by
        rcases open_ints Try.underlying22 Try.underlying3 c1 g2 with ⟨hcs, _⟩ | ⟨x, l, c, zs, hcs, _, hl', hm', hz, _, hcell', hwz⟩
        · simp at hcs
          subst hcs
          exact ⟨none, 0, [], rfl, ⟨Nat.le_refl _, by unfold maxLen; omega, .inl rfl⟩, by simp⟩
        · simp at hcs
          subst hcs
          obtain ⟨xs, hx, hr, hb⟩ := rowOf (.inr ⟨x, rfl, hl', hm', by simpa using hz, hcell', hwz⟩)
          exact ⟨some x, c, xs, by rw [hx], hr, hb⟩
      obtain ⟨a', cap', zs, rfl, hr, hb⟩ := hrow
      exact ⟨(z0, z1, zs), ⟨by simpa [Addr.add] using hcell 0 (by omega), by simpa using hcell 1 (by omega), _, by simpa using hcell 2 (by omega), ⟨a', cap', rfl, hr⟩⟩, bounds_i64 w0, bounds_i64 w1, hb⟩
  let f : Nat → DoR := fun i => if h : i < m then Classical.choose (hi i h) else z0R
  have hf : ∀ i, i < m → (W.cell? (a.add (i * 3)) = some (.int .i64 (f i).1) ∧ W.cell? ((a.add (i * 3)).add 1) = some (.int .i64 (f i).2.1) ∧ ∃ v, W.cell? ((a.add (i * 3)).add 2) = some v ∧ Row W v (f i).2.2) ∧ bdR (f i) := by
    intro i h
    have := Classical.choose_spec (hi i h)
    show _ ∧ _
    simp only [f, dif_pos h]
    exact this
  clear_value f
  refine ⟨some a, cap, (List.range len).map f, by simp, ⟨by simpa using hl, hm, ?_⟩, ?_⟩
  · rcases Nat.eq_zero_or_pos len with h0 | h0
    · left; simp [h0]
    · right
      obtain ⟨b, off, spot⟩ := a
      have h1 := (hf 0 (by omega)).1.1
      have hs : spot = none := by simpa [Addr.add] using World.cell?_spot h1
      subst hs
      have he : ∀ (b off i : Nat), (⟨b, off, none⟩ : Addr).add i = ⟨b, off + i, none⟩ := fun b off i => by
        by_cases e : i = 0
        · subst e; rfl
        · simp [Addr.add, e]
      refine ⟨b, off, rfl, World.block_lt_of_cell? W _ h1, fun i hi => ?_⟩
      have hi' : i < len := by simpa using hi
      have hg : ((List.range len).map f).getD i z0R = f i := by simp [List.getD, hi']
      obtain ⟨⟨k1, k2, k3⟩, _⟩ := hf i (by omega)
      rw [he] at k1
      rw [he, he] at k2 k3
      rw [hg]
      exact ⟨k1, k2, k3⟩
  · intro d hd
    obtain ⟨i, hi, rfl⟩ := List.mem_map.1 hd
    exact (hf i (by have := List.mem_range.1 hi; omega)).2
end Go.Proofs.Ytmlgpnaikdpifaa

set_option linter.unusedVariables false
set_option linter.unusedSimpArgs false
namespace Go.Proofs.Ytmlgpnaikdpifaa
open Go.RowKit

/-- A clause that is there: where it lies, its literals, its id. -/
abbrev CI := Value × List Int × Nat
def cellsC (ps : List CI) : List Value := ps.map fun x => x.1
def cellsI (ps : List CI) : List Value := ps.map fun x => Value.int .i64 (x.2.2 : Int)
structure CIs (W : World) (TI : Nat → Prop) (p : Pr) (ps : List CI) : Prop where
  rows : ∀ x ∈ ps, RowT W TI x.1 x.2.1
  tell : TellS p (ps.map fun x => x.2)
  rgt : ∀ x ∈ ps, ∀ l ∈ x.2.1, 1 ≤ plc l ∧ plc l < 13
theorem CIs.keep {W W' : World} {TI U : Nat → Prop} {p q : Pr} {ps : List CI} (h : CIs W TI p ps) (hk : Kp TI W W') (hs : ∀ i, TI i → U i) (e : q.cl = p.cl) : CIs W' U q ps :=
  ⟨fun x hx => by
    obtain ⟨a, c, e, h1, h2, h3⟩ := (h.rows x hx).keep hk
    exact ⟨a, c, e, h1, h2, h3.imp id fun ⟨b, off, e, h4, h5, h6⟩ => ⟨b, off, e, h4, hs b h5, h6⟩⟩, h.tell.cl e, h.rgt⟩
/-- What the first loop keeps: the prop p, the clauses with the ids as they were told to q. -/
structure PlA (w W : World) (v : Value) (p q : Pr) (cv iv fv : Value) (xss : List (List Int)) (ps : List CI) : Prop where
  ex : ∃ T TI, PlS w T TI v p [(22, cv, cellsC ps), (3, iv, cellsI ps)] W ∧ RowsT W TI fv xss ∧ CIs W TI q ps
section
variable {w W W1 : World} {v : Value} {p q : Pr} {cv iv fv : Value} {xss : List (List Int)} {ps : List CI}
theorem PlA.keep (h : PlA w W v p q cv iv fv xss ps) (hb : Below W.heap.size W W1) : PlA w W1 v p q cv iv fv xss ps := by
  obtain ⟨T, TI, h1, h2, h3⟩ := h.ex
  exact ⟨T, TI, h1.keep hb, h2.keep (h1.kpB hb), h3.keep (h1.kpB hb) (fun _ h => h) rfl⟩
theorem PlA.bel (h : PlA w W v p q cv iv fv xss ps) : Below w.heap.size w W := by
  obtain ⟨T, TI, h1, _⟩ := h.ex
  exact h1.pt.bel
theorem PlA.add (h : PlA w W v p q cv iv fv xss ps) (u : Value) (xs : List Int) (hu : Row W u xs) (hx : InW xs) (hn : xs.length ≤ 1000) (hc : p.cl.length ≤ 1000) : Calls Try.prog 12 #[v, u] W fun e w' => ∃ (y : Int) (b : Bool) (p' : Pr), AddR p xs b p' ∧ (b = true → y = (p.cl.length : Int)) ∧ e = .returned (.tuple #[.int .i64 y, .bool b]) ∧ PlA w w' v p' q cv iv fv xss ps := by
  obtain ⟨T, TI, h1, h2, h3⟩ := h.ex
  refine (pt_add h1.pt u xs hu hx hn hc).mono fun e w' ⟨y, b, p', hA, hy, he, hP, hK⟩ => ⟨y, b, p', hA, hy, he, T, TI, h1.call hP hK, h2.keep (h1.kpCall hK), h3.keep (h1.kpCall hK) (fun _ h => h) rfl⟩
/-- Appending to the clauses. -/
theorem PlA.ownC (h : PlA w W v p q cv iv fv xss ps) : W.ownsRow w.heap.size 22 1 cv ps.length (cellsC ps) := by
  obtain ⟨T, TI, h1, _⟩ := h.ex
  have := h1.own (22, cv, cellsC ps) (by simp)
  simpa [cellsC] using this
theorem PlA.rowAt (h : PlA w W v p q cv iv fv xss ps) {k : Nat} (hk : k < xss.length) : ∃ a c b off u, fv = .slice a xss.length c ∧ a = some ⟨b, off, none⟩ ∧ b < W.heap.size ∧ W.cell? ⟨b, off + k, none⟩ = some u ∧ Row W u (xss.getD k []) ∧ IsS u := by
  obtain ⟨T, TI, _, h2, _⟩ := h.ex
  obtain ⟨a, c, e, _, _, h3⟩ := h2
  obtain ⟨b, off, e2, h4, _, h6⟩ := h3.resolve_left (by omega)
  obtain ⟨u, h7, h8⟩ := h6 k hk
  obtain ⟨a', c', e', _⟩ := id h8
  exact ⟨a, c, b, off, u, e, e2, h4, h7, h8.row, a', _, c', e'⟩
theorem PlA.ownI {cv' : Value} (h : PlA w W v p q cv iv fv xss ps) (ha : App w.heap.size W W1 cv cv') : W1.ownsRow w.heap.size 3 1 iv ps.length ((ps.map fun x => (x.2.2 : Int)).map (Value.int .i64)) := by
  obtain ⟨T, TI, h1, _⟩ := h.ex
  have ho := h1.own (3, iv, cellsI ps) (by simp)
  have hs := (List.pairwise_cons.1 h1.sep).1 (3, iv, cellsI ps) (by simp)
  have := ha.own ho (by
    cases e : iv.ownBlock with
    | none => exact .inl rfl
    | some g => exact .inr fun e' => hs g e'.symm e)
  simpa [cellsI, Function.comp_def] using this
/-- Both rows appended to: the clause that p has and q has not. -/
theorem PlA.push {W2 : World} {cv' iv' : Value} {k : Nat} {u : Value} {c : List Int} (h : PlA w W v p q cv iv fv xss ps) (hk : k < xss.length) (hu : ∀ a n cc b off, fv = .slice a n cc → a = some ⟨b, off, none⟩ → W.cell? ⟨b, off + k, none⟩ = some u) (hx : ∀ l ∈ xss.getD k [], 1 ≤ plc l ∧ plc l < 13) (hp : p.cl = (addP q c).cl) (hc : NrmP (xss.getD k []) c)
    (ha1 : App w.heap.size W W1 cv cv') (ho1 : W1.ownsRow w.heap.size 22 1 cv' (ps.length + 1) (cellsC ps ++ [u]))
    (ha2 : App w.heap.size W1 W2 iv iv') (ho2 : W2.ownsRow w.heap.size 3 1 iv' (ps.length + 1) (cellsI ps ++ [.int .i64 (q.cl.length : Int)])) :
    PlA w W2 v p p cv' iv' fv xss (ps ++ [(u, xss.getD k [], q.cl.length)]) := by
  obtain ⟨T, TI, h1, h2, h3⟩ := h.ex
  obtain ⟨a, cc, e, _, _, h5⟩ := id h2
  obtain ⟨b, off, e2, h6, _, h7⟩ := h5.resolve_left (by omega)
  obtain ⟨u', h8, h9⟩ := h7 k hk
  have := hu a _ cc b off e e2
  rw [this] at h8
  injection h8 with h8
  subst h8
  have s1 := h1.app (ys := cellsC ps ++ [u]) ha1 (by simpa [cellsC] using ho1)
  have k1 := h1.kpApp ha1
  have s2 := s1.perm (List.Perm.swap _ _ _)
  have s3 := s2.app (ys := cellsI ps ++ [.int .i64 (q.cl.length : Int)]) ha2 (by simpa [cellsI] using ho2)
  have k2 := s2.kpApp ha2
  have s4 := s3.perm (List.Perm.swap _ _ _)
  have kk := k1.trans k2
  refine ⟨_, TI, by simpa [cellsC, cellsI] using s4, h2.keep kk, fun x hx' => ?_, ?_, fun x hx' => ?_⟩
  · rcases List.mem_append.1 hx' with hx' | hx'
    · exact (h3.rows x hx').keep kk
    · simp at hx'
      subst hx'
      exact h9.keep kk
  · rw [List.map_append]
    exact (h3.tell.add hc).cl hp
  · rcases List.mem_append.1 hx' with hx' | hx'
    · exact h3.rgt x hx'
    · simp at hx'
      subst hx'
      exact hx
end

theorem rgt_of {l m : Int} (hm : m = 12) (h : l ≠ 0 ∧ isF l m = true) : 1 ≤ plc l ∧ plc l < 13 := by
  subst hm
  have h2 := h.2
  unfold isF at h2
  simp at h2
  have h3 := plc_absI l
  unfold absI at h3
  split at h3 <;> omega
end Go.Proofs.Ytmlgpnaikdpifaa

set_option linter.unusedVariables false
set_option linter.unusedSimpArgs false
namespace Go.Proofs.Ytmlgpnaikdpifaa
open Go.RowKit

def cellsD (p : Pr) : List Value := (decP p).map (Value.int .i64)
def cellsL (p : Pr) : List Value := (List.range (p.st.length + 1)).map fun (i : Nat) => Value.int .i64 (i : Int)
structure PlB (w W : World) (v : Value) (p : Pr) (dv lv cv iv : Value) (ps : List CI) : Prop where
  ex : ∃ T TI, PlS w T TI v p [(3, dv, cellsD p), (3, lv, cellsL p), (22, cv, cellsC ps), (3, iv, cellsI ps)] W ∧ CIs W TI p ps
section
variable {w W W1 : World} {v : Value} {p q : Pr} {dv lv cv iv fv : Value} {xss : List (List Int)} {ps : List CI}
theorem PlB.start (h : PlA w W v p p cv iv fv xss ps) (hst : p.st = []) : PlB w (W.alloc (.cells #[.int .i64 0] 3)) v p (.slice none 0 0) (.slice (some ⟨W.heap.size, 0, none⟩) 1 1) cv iv ps := by
  obtain ⟨T, TI, h1, _, h3⟩ := h.ex
  have hb : Below W.heap.size W (W.alloc (.cells #[.int .i64 0] 3)) := (Below.refl _ _).alloc (Nat.le_refl _) _
  have ho : (W.alloc (.cells #[.int .i64 0] 3)).ownsRow W.heap.size 3 1 (.slice (some ⟨W.heap.size, 0, none⟩) 1 1) [Value.int .i64 0].length [Value.int .i64 0] :=
    ⟨rfl, .inr ⟨W.heap.size, 1, _, rfl, Nat.le_refl _, heap_alloc_new W _, Nat.le_refl _, by decide, rfl, rfl⟩⟩
  have s1 := ((h1.none 3).fresh hb ho).none 3
  have eL : cellsL p = [Value.int .i64 0] := by unfold cellsL; rw [hst]; rfl
  have eD : cellsD p = [] := by unfold cellsD decP; rw [hst]; rfl
  refine ⟨⟨fun i => T i ∨ NewB W (W.alloc (.cells #[.int .i64 0] 3)) i, TI, ?_, h3.keep (h1.kpB hb) (fun _ h => h) rfl⟩⟩
  rw [eL, eD]
  exact s1
theorem PlB.keep (h : PlB w W v p dv lv cv iv ps) (hb : Below W.heap.size W W1) : PlB w W1 v p dv lv cv iv ps := by
  obtain ⟨T, TI, h1, h3⟩ := h.ex
  exact ⟨T, TI, h1.keep hb, h3.keep (h1.kpB hb) (fun _ h => h) rfl⟩
theorem PlB.bel (h : PlB w W v p dv lv cv iv ps) : Below w.heap.size w W := by
  obtain ⟨T, TI, h1, _⟩ := h.ex
  exact h1.pt.bel
theorem PlB.wf (h : PlB w W v p dv lv cv iv ps) : PrW p := by
  obtain ⟨T, TI, h1, _⟩ := h.ex
  exact h1.pt.wf
theorem PlB.own (h : PlB w W v p dv lv cv iv ps) : W.ownsRow w.heap.size 3 1 dv (cellsD p).length (cellsD p) ∧ W.ownsRow w.heap.size 3 1 lv (cellsL p).length (cellsL p) ∧ W.ownsRow w.heap.size 22 1 cv (cellsC ps).length (cellsC ps) ∧ W.ownsRow w.heap.size 3 1 iv (cellsI ps).length (cellsI ps) := by
  obtain ⟨T, TI, h1, _⟩ := h.ex
  exact ⟨h1.own (3, dv, cellsD p) (by simp), h1.own (3, lv, cellsL p) (by simp), h1.own (22, cv, cellsC ps) (by simp), h1.own (3, iv, cellsI ps) (by simp)⟩
theorem PlB.rows (h : PlB w W v p dv lv cv iv ps) : ∃ a c, cv = .slice a ps.length c ∧ RowsAt W a c (ps.map fun x => x.2.1) := by
  have hC := h.own.2.2.1
  have hl : (cellsC ps).length = ps.length := by unfold cellsC; rw [List.length_map]
  rw [hl] at hC
  obtain ⟨a, c, e, hc1, hc2⟩ := own_shape hC
  refine ⟨a, c, e, by rw [List.length_map]; exact hc1, hc2, ?_⟩
  rcases Nat.eq_zero_or_pos ps.length with h0 | h0
  · exact .inl (by rw [List.length_map]; exact h0)
  · right
    obtain ⟨T, TI, h1, h3⟩ := h.ex
    obtain ⟨g, k, e2⟩ := own_at hC h0
    rw [e] at e2
    injection e2 with e3 _ e4
    subst e3; subst e4
    rw [e] at hC
    refine ⟨g, 0, rfl, (hC.lt g rfl).2, fun i hi => ?_⟩
    rw [List.length_map] at hi
    refine ⟨(ps[i]).1, ?_, ?_⟩
    · rw [Nat.zero_add]
      exact own_cell hC (by unfold cellsC; rw [List.getElem?_map, List.getElem?_eq_getElem hi]; rfl)
    · have : (ps.map fun x => x.2.1).getD i [] = (ps[i]).2.1 := by simp [List.getD, hi]
      rw [this]
      exact (h3.rows _ (List.getElem_mem hi)).row
/-- What holds wants of the clauses. -/
theorem PlB.said (h : PlB w W v p dv lv cv iv ps) : RgtC 13 (ps.map fun x => x.2.1) ∧ SameC (ps.map fun x => x.2.1) (clsP p) := by
  obtain ⟨T, TI, _, h3⟩ := h.ex
  refine ⟨fun c hc => ?_, ?_⟩
  · obtain ⟨x, hx, rfl⟩ := List.mem_map.1 hc
    exact h3.rgt x hx
  · have := h3.tell.same
    rwa [List.map_map] at this

theorem PlB.prop (h : PlB w W v p dv lv cv iv ps) (hc : p.cl.length ≤ 1000) : Calls Try.prog 14 #[v] W fun e w' => ∃ x p', PrpR p x p' ∧ e = .returned (.int .i64 x) ∧ PlB w w' v p' dv lv cv iv ps := by
  have hwf := h.wf
  obtain ⟨T, TI, h1, h3⟩ := h.ex
  refine (pt_prop h1.pt hc).mono fun e w' ⟨x, p', hR, he, hP, hK⟩ => ⟨x, p', hR, he, T, TI, ?_, h3.keep (h1.kpCall hK) (fun _ h => h) hR.2.1⟩
  have eD : cellsD p' = cellsD p := by unfold cellsD; rw [hR.dec hwf]
  have eL : cellsL p' = cellsL p := by unfold cellsL; rw [hR.2.2.1]
  rw [eD, eL]
  exact h1.call hP hK

theorem PlB.dRow (h : PlB w W v p dv lv cv iv ps) : Row W dv (decP p) := by
  have := h.own.1
  unfold cellsD at this
  rw [List.length_map] at this
  exact own_row this
theorem PlB.rgtD (h : PlB w W v p dv lv cv iv ps) (hn : p.n = 12) : RgtD 13 (decP p) := fun l hl => by
  have := h.wf.rgt l (h.wf.dec_tr hl)
  omega

theorem PlB.holds (h : PlB w W v p dv lv cv iv ps) (hn : p.n = 12) {x : Int} (hx : SaidP p x) : Calls Try.prog 15 #[v, cv, dv, .int .i64 x] W fun e w' => e = .returned (.bool true) ∧ Below W.heap.size W w' := by
  obtain ⟨a, c, rfl, hr⟩ := h.rows
  obtain ⟨k1, k2⟩ := h.said
  have hd := h.dRow
  have hg := h.rgtD hn
  obtain ⟨T, TI, h1, _⟩ := h.ex
  obtain ⟨S, hS, _⟩ := h1.pt
  have := lawHolds_any W hS a c _ dv (decP p) x hr hd k1 hg hx k2 rfl
  rwa [List.length_map] at this

theorem PlB.reasons (h : PlB w W v p dv lv cv iv ps) (hc : p.cl.length ≤ 1000) : Calls Try.prog 26 #[v, dv] W fun e w' => e = .returned (.bool true) ∧ Below W.heap.size W w' := by
  have hd := h.dRow
  obtain ⟨T, TI, h1, _⟩ := h.ex
  obtain ⟨S, hS, _⟩ := h1.pt
  exact reasons_any W hS dv (decP p) hd rfl hc

theorem PlB.wrong (h : PlB w W v p dv lv cv iv ps) (hc : p.cl.length ≤ 1000) {k : Nat} {c : List Int} (hk : p.cl.getD k none = some c) (hf : ∀ l ∈ c, -l ∈ p.tr) : Calls Try.prog 25 #[v, .int .i64 (k : Int)] W fun e w' => e = .returned (.bool true) ∧ Below W.heap.size W w' := by
  obtain ⟨T, TI, h1, _⟩ := h.ex
  obtain ⟨S, hS, _⟩ := h1.pt
  have hkl : k < p.cl.length := by
    rcases Nat.lt_or_ge k p.cl.length with hl | hl
    · exact hl
    · simp [List.getD, List.getElem?_eq_none hl] at hk
  exact wrong_any W hS k c (by omega) hk hf

end
end Go.Proofs.Ytmlgpnaikdpifaa

set_option linter.unusedVariables false
set_option linter.unusedSimpArgs false
namespace Go.Proofs.Ytmlgpnaikdpifaa
open Go.RowKit

/-- The prop p, rows of the call's own, the clauses with the ids as they were told to q, and rows ys that only are read. -/
def PlG (w W : World) (v : Value) (p q : Pr) (rs : List ORow) (ps : List CI) (ys : List (Value × List Int)) : Prop :=
  ∃ T TI, PlS w T TI v p rs W ∧ CIs W TI q ps ∧ ∀ x ∈ ys, RowT W TI x.1 x.2
section
variable {w W W1 : World} {v : Value} {p q : Pr} {rs qs : List ORow} {dv lv cv iv : Value} {ps : List CI} {ys : List (Value × List Int)}
theorem RowT.sub {w : World} {T U : Nat → Prop} {v : Value} {xs : List Int} (h : RowT w T v xs) (hs : ∀ i, T i → U i) : RowT w U v xs := by
  obtain ⟨a, c, e, h1, h2, h3⟩ := h
  exact ⟨a, c, e, h1, h2, h3.imp id fun ⟨b, off, e, h4, h5, h6⟩ => ⟨b, off, e, h4, hs b h5, h6⟩⟩
theorem PlB.g (h : PlB w W v p dv lv cv iv ps) : PlG w W v p p [(3, dv, cellsD p), (3, lv, cellsL p), (22, cv, cellsC ps), (3, iv, cellsI ps)] ps [] := by
  obtain ⟨T, TI, h1, h2⟩ := h.ex
  exact ⟨T, TI, h1, h2, by simp⟩
theorem PlG.b (h : PlG w W v p p [(3, dv, cellsD p), (3, lv, cellsL p), (22, cv, cellsC ps), (3, iv, cellsI ps)] ps ys) : PlB w W v p dv lv cv iv ps := by
  obtain ⟨T, TI, h1, h2, _⟩ := h
  exact ⟨T, TI, h1, h2⟩
theorem PlG.keep (h : PlG w W v p q rs ps ys) (hb : Below W.heap.size W W1) : PlG w W1 v p q rs ps ys := by
  obtain ⟨T, TI, h1, h2, h3⟩ := h
  exact ⟨T, TI, h1.keep hb, h2.keep (h1.kpB hb) (fun _ h => h) rfl, fun x hx => (h3 x hx).keep (h1.kpB hb)⟩
theorem PlG.perm (h : PlG w W v p q rs ps ys) (hp : rs.Perm qs) : PlG w W v p q qs ps ys := by
  obtain ⟨T, TI, h1, h2⟩ := h
  exact ⟨T, TI, h1.perm hp, h2⟩
theorem PlG.bel (h : PlG w W v p q rs ps ys) : Below w.heap.size w W := by
  obtain ⟨T, TI, h1, _⟩ := h
  exact h1.pt.bel
theorem PlG.wf (h : PlG w W v p q rs ps ys) : PrW p := by
  obtain ⟨T, TI, h1, _⟩ := h
  exact h1.pt.wf
theorem PlG.own (h : PlG w W v p q rs ps ys) {r : ORow} (hr : r ∈ rs) : W.ownsRow w.heap.size r.1 1 r.2.1 r.2.2.length r.2.2 := by
  obtain ⟨T, TI, h1, _⟩ := h
  exact h1.own r hr
theorem PlG.row (h : PlG w W v p q rs ps ys) {x : Value × List Int} (hx : x ∈ ys) : Row W x.1 x.2 := by
  obtain ⟨T, TI, h1, _, h3⟩ := h
  exact (h3 x hx).row
theorem PlG.fresh {r : ORow} {e : TypeId} {u : Value} {xs : List Value} (h : PlG w W v p q (r :: rs) ps ys) (hb : Below W.heap.size W W1) (ho : W1.ownsRow W.heap.size e 1 u xs.length xs) : PlG w W1 v p q ((e, u, xs) :: rs) ps ys := by
  obtain ⟨T, TI, h1, h2, h3⟩ := h
  exact ⟨_, TI, h1.fresh hb ho, h2.keep (h1.kpB hb) (fun _ h => h) rfl, fun x hx => (h3 x hx).keep (h1.kpB hb)⟩
theorem PlG.app {e : TypeId} {u u' : Value} {xs zs : List Value} (h : PlG w W v p q ((e, u, xs) :: rs) ps ys) (ha : App w.heap.size W W1 u u') (ho : W1.ownsRow w.heap.size e 1 u' zs.length zs) : PlG w W1 v p q ((e, u', zs) :: rs) ps ys := by
  obtain ⟨T, TI, h1, h2, h3⟩ := h
  exact ⟨_, TI, h1.app ha ho, h2.keep (h1.kpApp ha) (fun _ h => h) rfl, fun x hx => (h3 x hx).keep (h1.kpApp ha)⟩
/-- A row made since is read from here on. -/
theorem PlG.take {u : Value} {n : Nat} {y : List Int} (h : PlG w W v p q rs ps ys) (hb : Below W.heap.size W W1) (ho : W1.ownsRow W.heap.size 3 1 u n (y.map (Value.int .i64))) : PlG w W1 v p q rs ps ((u, y) :: ys) := by
  obtain ⟨T, TI, h1, h2, h3⟩ := h
  refine ⟨_, _, h1.read hb, h2.keep (h1.kpB hb) (fun _ h => .inl h) rfl, fun x hx => ?_⟩
  rcases List.mem_cons.1 hx with rfl | hx
  · exact own_rowT ho fun i h1 h2 => .inr ⟨h1, h2⟩
  · exact ((h3 x hx).keep (h1.kpB hb)).sub fun _ h => .inl h
theorem PlG.cl {q' : Pr} (h : PlG w W v p q rs ps ys) (e : q'.cl = q.cl) : PlG w W v p q' rs ps ys := by
  obtain ⟨T, TI, h1, h2, h3⟩ := h
  exact ⟨T, TI, h1, ⟨h2.rows, h2.tell.cl e, h2.rgt⟩, h3⟩
/-- The row joins the clauses. -/
theorem PlG.push {u : Value} {y c : List Int} {q' : Pr} (h : PlG w W v p q rs ps ((u, y) :: ys)) (hy : ∀ l ∈ y, 1 ≤ plc l ∧ plc l < 13) (hp : q'.cl = (addP q c).cl) (hc : NrmP y c) : PlG w W v p q' rs (ps ++ [(u, y, q.cl.length)]) ys := by
  obtain ⟨T, TI, h1, h2, h3⟩ := h
  refine ⟨T, TI, h1, ⟨fun x hx => ?_, ?_, fun x hx => ?_⟩, fun x hx => h3 x (List.mem_cons_of_mem _ hx)⟩
  · rcases List.mem_append.1 hx with hx | hx
    · exact h2.rows x hx
    · simp at hx; subst hx
      exact h3 (u, y) (by simp)
  · rw [List.map_append]
    exact (h2.tell.add hc).cl hp
  · rcases List.mem_append.1 hx with hx | hx
    · exact h2.rgt x hx
    · simp at hx; subst hx; exact hy
/-- The k-th clause leaves. -/
theorem PlG.drop {k : Nat} (h : PlG w W v p q rs ps ys) (hk : k < ps.length) (hok : dropOk q (ps[k].2.2 : Int) = true) : PlG w W v p (dropP q (ps[k].2.2 : Int)) rs (ps.take k ++ ps.drop (k + 1)) ys := by
  obtain ⟨T, TI, h1, h2, h3⟩ := h
  have hsub : ∀ x ∈ ps.take k ++ ps.drop (k + 1), x ∈ ps := fun x hx => by
    rcases List.mem_append.1 hx with hx | hx
    · exact List.mem_of_mem_take hx
    · exact List.mem_of_mem_drop hx
  refine ⟨T, TI, h1, ⟨fun x hx => h2.rows x (hsub x hx), ?_, fun x hx => h2.rgt x (hsub x hx)⟩, h3⟩
  have := h2.tell.drop (k := k) (by rw [List.length_map]; exact hk) (by simpa using hok)
  rw [List.map_append, List.map_take, List.map_drop]
  simpa using this

theorem PlG.dec (h : PlG w W v p q rs ps ys) (l : Int) (h1 : -9223372036854775807 ≤ l) (h2 : l ≤ 9223372036854775807) : Calls Try.prog 18 #[v, .int .i64 l] W fun e w' => e = .returned (.bool (decOk p l)) ∧ PlG w w' v (decdP p l) q rs ps ys := by
  obtain ⟨T, TI, k1, k2, k3⟩ := h
  exact (pt_dec k1.pt l h1 h2).mono fun e w' ⟨he, hP, hK⟩ => ⟨he, T, TI, k1.call hP hK, k2.keep (k1.kpCall hK) (fun _ h => h) rfl, fun x hx => (k3 x hx).keep (k1.kpCall hK)⟩

theorem PlG.back (h : PlG w W v p q rs ps ys) (l : Int) (h1 : -9223372036854775808 ≤ l) (h2 : l ≤ 9223372036854775807) : Calls Try.prog 20 #[v, .int .i64 l] W fun e w' => e = .returned (.tuple #[]) ∧ PlG w w' v (backP p l) q rs ps ys := by
  obtain ⟨T, TI, k1, k2, k3⟩ := h
  exact (pt_back k1.pt l h1 h2).mono fun e w' ⟨he, hP, hK⟩ => ⟨he, T, TI, k1.call hP hK, k2.keep (k1.kpCall hK) (fun _ h => h) rfl, fun x hx => (k3 x hx).keep (k1.kpCall hK)⟩

theorem PlG.dropC (h : PlG w W v p q rs ps ys) (l : Int) (h1 : -9223372036854775808 ≤ l) (h2 : l ≤ 9223372036854775807) : Calls Try.prog 23 #[v, .int .i64 l] W fun e w' => e = .returned (.bool (dropOk p l)) ∧ PlG w w' v (dropP p l) q rs ps ys := by
  obtain ⟨T, TI, k1, k2, k3⟩ := h
  exact (pt_drop k1.pt l h1 h2).mono fun e w' ⟨he, hP, hK⟩ => ⟨he, T, TI, k1.call hP hK, k2.keep (k1.kpCall hK) (fun _ h => h) rfl, fun x hx => (k3 x hx).keep (k1.kpCall hK)⟩

theorem PlG.addC (h : PlG w W v p q rs ps ys) (u : Value) (xs : List Int) (hu : Row W u xs) (hx : InW xs) (hn : xs.length ≤ 1000) (hc : p.cl.length ≤ 1000) : Calls Try.prog 12 #[v, u] W fun e w' => ∃ (y : Int) (b : Bool) (p' : Pr), AddR p xs b p' ∧ (b = true → y = (p.cl.length : Int)) ∧ e = .returned (.tuple #[.int .i64 y, .bool b]) ∧ PlG w w' v p' q rs ps ys := by
  obtain ⟨T, TI, k1, k2, k3⟩ := h
  exact (pt_add k1.pt u xs hu hx hn hc).mono fun e w' ⟨y, b, p', hA, hy, he, hP, hK⟩ => ⟨y, b, p', hA, hy, he, T, TI, k1.call hP hK, k2.keep (k1.kpCall hK) (fun _ h => h) rfl, fun x hx => (k3 x hx).keep (k1.kpCall hK)⟩

theorem PlG.val (h : PlG w W v p q rs ps ys) (l : Int) (h1 : -9223372036854775807 ≤ l) (h2 : l ≤ 9223372036854775807) : Calls Try.prog 17 #[v, .int .i64 l] W fun e w' => e = .returned (.int .i64 (valP p l)) ∧ W = w' := by
  obtain ⟨T, TI, k1, _⟩ := h
  exact k1.pt.use fun S hS => pval_any W hS l h1 h2

theorem PlG.lvl (h : PlG w W v p q rs ps ys) : Calls Try.prog 24 #[v] W fun e w' => e = .returned (.int .i64 (p.st.length : Int)) ∧ W = w' := by
  obtain ⟨T, TI, k1, _⟩ := h
  exact k1.pt.use fun S hS => plvl_any W hS

theorem PlG.ownI {e : TypeId} {u : Value} {xs : List Int} (h : PlG w W v p q rs ps ys) (hr : (e, u, xs.map (Value.int .i64)) ∈ rs) : W.ownsRow w.heap.size e 1 u xs.length (xs.map (Value.int .i64)) := by
  have := h.own hr
  rwa [List.length_map] at this
theorem PlG.app1 {e : TypeId} {u u' : Value} {xs : List Int} {x : Int} (h : PlG w W v p q ((e, u, xs.map (Value.int .i64)) :: rs) ps ys) (ha : App w.heap.size W W1 u u') (ho : W1.ownsRow w.heap.size e 1 u' (xs.length + 1) ((xs ++ [x]).map (Value.int .i64))) : PlG w W1 v p q ((e, u', (xs ++ [x]).map (Value.int .i64)) :: rs) ps ys :=
  h.app ha (by rwa [List.length_map, List.length_append])
end
def intsL (p : Pr) : List Int := (List.range (p.st.length + 1)).map fun (i : Nat) => (i : Int)
theorem cellsL_ints (p : Pr) : cellsL p = (intsL p).map (Value.int .i64) := by unfold cellsL intsL; rw [List.map_map]; rfl
theorem intsL_len (p : Pr) : (intsL p).length = p.st.length + 1 := by unfold intsL; simp
def intsI (ps : List CI) : List Int := ps.map fun x => (x.2.2 : Int)
theorem cellsI_ints (ps : List CI) : cellsI ps = (intsI ps).map (Value.int .i64) := by unfold cellsI intsI; rw [List.map_map]; rfl
theorem intsI_len (ps : List CI) : (intsI ps).length = ps.length := by unfold intsI; simp
theorem decP_len (p : Pr) : (decP p).length = p.st.length := by unfold decP; simp
/-- What the steps make of the decisions, the levels. -/
theorem decd_cells {p : Pr} {l : Int} (hw : PrW p) (h : decOk p l = true) : cellsD (decdP p l) = cellsD p ++ [.int .i64 l] ∧ cellsL (decdP p l) = cellsL p ++ [.int .i64 ((cellsD (decdP p l)).length : Int)] ∧ (decdP p l).cl = p.cl ∧ (decdP p l).n = p.n ∧ (cellsD (decdP p l)).length = p.st.length + 1 := by
  have hd := decdP_dec hw h
  have e1 : cellsD (decdP p l) = cellsD p ++ [.int .i64 l] := by unfold cellsD; rw [hd, List.map_append]; rfl
  have hst : (decdP p l).st = p.st ++ [p.tr.length] := by unfold decdP; rw [if_pos h]
  have hlen : (cellsD p).length = p.st.length := by unfold cellsD decP; simp
  refine ⟨e1, ?_, by unfold decdP; rw [if_pos h], by unfold decdP; rw [if_pos h], by rw [e1]; simp [hlen]⟩
  rw [e1]
  unfold cellsL
  rw [hst, List.length_append, List.length_singleton, List.range_succ, List.map_append, List.length_append, hlen]
  simp
theorem cellsD_len (p : Pr) : (cellsD p).length = p.st.length := by unfold cellsD decP; simp
theorem cellsL_len (p : Pr) : (cellsL p).length = p.st.length + 1 := by unfold cellsL; simp
theorem cellsC_len (ps : List CI) : (cellsC ps).length = ps.length := by unfold cellsC; simp
theorem cellsI_len (ps : List CI) : (cellsI ps).length = ps.length := by unfold cellsI; simp
theorem back_cells {p : Pr} (hw : PrW p) {k : Nat} (hk : k ≤ p.st.length) : cellsD (backP p (k : Int)) = (cellsD p).take k ∧ cellsL (backP p (k : Int)) = (cellsL p).take (k + 1) ∧ (backP p (k : Int)).cl = p.cl ∧ (backP p (k : Int)).n = p.n := by
  have hd := backP_dec hw (k : Int)
  rw [Int.toNat_natCast] at hd
  have hl := back_len (p := p) hk
  refine ⟨by unfold cellsD; rw [hd, List.map_take], ?_, ?_, ?_⟩
  · unfold cellsL
    rw [hl, ← List.map_take, List.take_range]
    congr 2
    omega
  · unfold backP; split <;> rfl
  · unfold backP; split <;> rfl
section
variable {w W W1 W2 : World} {v : Value} {p q : Pr} {dv lv cv iv dv' lv' cv' iv' : Value} {ps : List CI}
/-- The rows of PropPlays at once. -/
abbrev rowsP (p : Pr) (dv lv cv iv : Value) (ps : List CI) : List ORow := [(3, dv, cellsD p), (3, lv, cellsL p), (22, cv, cellsC ps), (3, iv, cellsI ps)]
theorem PlG.own4 {q : Pr} {ys : List (Value × List Int)} (h : PlG w W v p q (rowsP p dv lv cv iv ps) ps ys) : W.ownsRow w.heap.size 3 1 dv (decP p).length ((decP p).map (Value.int .i64)) ∧ W.ownsRow w.heap.size 3 1 lv (p.st.length + 1) ((intsL p).map (Value.int .i64)) ∧ W.ownsRow w.heap.size 22 1 cv ps.length (cellsC ps) ∧ W.ownsRow w.heap.size 3 1 iv ps.length ((intsI ps).map (Value.int .i64)) := by
  have h1 := h.own (r := (3, dv, cellsD p)) (by simp)
  have h2 := h.own (r := (3, lv, cellsL p)) (by simp)
  have h3 := h.own (r := (22, cv, cellsC ps)) (by simp)
  have h4 := h.own (r := (3, iv, cellsI ps)) (by simp)
  simp only [cellsL_ints, cellsI_ints, List.length_map, intsL_len, intsI_len, cellsC_len] at h2 h3 h4
  simp only [cellsD, List.length_map] at h1
  exact ⟨h1, h2, h3, h4⟩
theorem PlG.own4' {p' q : Pr} {ys : List (Value × List Int)} (h : PlG w W v p' q (rowsP p dv lv cv iv ps) ps ys) : W.ownsRow w.heap.size 3 1 dv (decP p).length ((decP p).map (Value.int .i64)) ∧ W.ownsRow w.heap.size 3 1 lv (p.st.length + 1) ((intsL p).map (Value.int .i64)) ∧ W.ownsRow w.heap.size 22 1 cv ps.length (cellsC ps) ∧ W.ownsRow w.heap.size 3 1 iv ps.length ((intsI ps).map (Value.int .i64)) := by
  have h1 := h.own (r := (3, dv, cellsD p)) (by simp)
  have h2 := h.own (r := (3, lv, cellsL p)) (by simp)
  have h3 := h.own (r := (22, cv, cellsC ps)) (by simp)
  have h4 := h.own (r := (3, iv, cellsI ps)) (by simp)
  simp only [cellsL_ints, cellsI_ints, List.length_map, intsL_len, intsI_len, cellsC_len] at h2 h3 h4
  simp only [cellsD, List.length_map] at h1
  exact ⟨h1, h2, h3, h4⟩
theorem PlG.isS {rs : List ORow} {ys : List (Value × List Int)} (h : PlG w W v p q rs ps ys) : ∀ u ∈ cellsC ps, IsS u := fun u hu => by
  obtain ⟨T, TI, _, h2, _⟩ := h
  unfold cellsC at hu
  obtain ⟨x, hx, rfl⟩ := List.mem_map.1 hu
  obtain ⟨a, c, e, _⟩ := h2.rows x hx
  exact ⟨a, _, c, e⟩
/-- Decided: the rows follow. -/
theorem PlG.dec1 {l : Int} {n : Nat} (h : PlG w W v (decdP p l) p (rowsP p dv lv cv iv ps) ps []) (hn : n = (decP p).length) (ha1 : App w.heap.size W W1 dv dv') (ho1 : W1.ownsRow w.heap.size 3 1 dv' (n + 1) ((decP p ++ [l]).map (Value.int .i64))) :
    PlG w W1 v (decdP p l) p [(3, lv, (intsL p).map (Value.int .i64)), (3, dv', (decP p ++ [l]).map (Value.int .i64)), (22, cv, cellsC ps), (3, iv, cellsI ps)] ps [] := by
  have h1 := PlG.app1 (xs := decP p) h ha1 (by rw [← hn]; exact ho1)
  rw [cellsL_ints] at h1
  exact h1.perm (List.Perm.swap _ _ _)
theorem PlG.dec2 {l : Int} {n : Nat} {y : Int} (hw : PrW p) (hok : decOk p l = true) (h : PlG w W1 v (decdP p l) p [(3, lv, (intsL p).map (Value.int .i64)), (3, dv', (decP p ++ [l]).map (Value.int .i64)), (22, cv, cellsC ps), (3, iv, cellsI ps)] ps []) (hn : n = p.st.length + 1) (hy : y = (((decP p).length + 1 : Nat) : Int)) (ha2 : App w.heap.size W1 W2 lv lv') (ho2 : W2.ownsRow w.heap.size 3 1 lv' (n + 1) ((intsL p ++ [y]).map (Value.int .i64))) : PlB w W2 v (decdP p l) dv' lv' cv iv ps := by
  have h1 := (PlG.app1 h ha2 (by rw [intsL_len, ← hn]; exact ho2)).perm (List.Perm.swap _ _ _)
  obtain ⟨e1, e2, e3, _, e5⟩ := decd_cells hw hok
  have h2 := h1.cl e3
  have f1 : (decP p ++ [l]).map (Value.int .i64) = cellsD (decdP p l) := by rw [e1]; unfold cellsD; simp
  have f2 : (intsL p ++ [y]).map (Value.int .i64) = cellsL (decdP p l) := by
    rw [e2, cellsL_ints, List.map_append, hy]
    have : (cellsD (decdP p l)).length = (decP p).length + 1 := by rw [e5, decP_len]
    rw [this]; rfl
  rw [f1, f2] at h2
  exact h2.b
/-- Not decided. -/
theorem PlG.dec0 {l : Int} (h : PlG w W v (decdP p l) p (rowsP p dv lv cv iv ps) ps []) (hok : decOk p l = false) : PlB w W v p dv lv cv iv ps := by
  have e : decdP p l = p := by unfold decdP; rw [hok]; rfl
  rw [e] at h
  exact h.b
/-- Gone back: the rows follow. -/
theorem PlG.back1 {K : Nat} (hw : PrW p) (hk : K ≤ p.st.length) (h : PlG w W v (backP p (K : Int)) p (rowsP p dv lv cv iv ps) ps []) (hb1 : Below W.heap.size W W1) (ho1 : W1.ownsRow W.heap.size 3 1 lv' (K + 1) (((intsL p).take (K + 1)).map (Value.int .i64))) (hb2 : Below W1.heap.size W1 W2) (ho2 : W2.ownsRow W1.heap.size 3 1 dv' K (((decP p).take K).map (Value.int .i64))) : PlB w W2 v (backP p (K : Int)) dv' lv' cv iv ps := by
  obtain ⟨e1, e2, e3, _⟩ := back_cells hw hk
  have l1 : (((intsL p).take (K + 1)).map (Value.int .i64)).length = K + 1 := by rw [List.length_map, List.length_take, intsL_len]; omega
  have l2 : (((decP p).take K).map (Value.int .i64)).length = K := by rw [List.length_map, List.length_take, decP_len]; omega
  have h1 := (h.perm (List.Perm.swap _ _ _)).fresh hb1 (e := 3) (u := lv') (xs := ((intsL p).take (K + 1)).map (Value.int .i64)) (by rw [l1]; exact ho1)
  have h2 := (h1.perm (List.Perm.swap _ _ _)).fresh hb2 (e := 3) (u := dv') (xs := ((decP p).take K).map (Value.int .i64)) (by rw [l2]; exact ho2)
  have h3 := h2.cl e3
  have f1 : ((decP p).take K).map (Value.int .i64) = cellsD (backP p (K : Int)) := by rw [e1]; unfold cellsD; rw [List.map_take]
  have f2 : ((intsL p).take (K + 1)).map (Value.int .i64) = cellsL (backP p (K : Int)) := by rw [e2, cellsL_ints, List.map_take]
  rw [f1, f2] at h3
  exact h3.b
/-- Added: the rows follow. -/
theorem PlG.add1 {p' : Pr} {o : Value} {ys : List (Value × List Int)} (h : PlG w W v p' p (rowsP p dv lv cv iv ps) ps ys) (hb : Below W.heap.size W W1) (ho : W1.ownsRow W.heap.size 22 1 o ps.length (cellsC ps)) : PlG w W1 v p' p [(22, o, cellsC ps), (3, dv, cellsD p), (3, lv, cellsL p), (3, iv, cellsI ps)] ps ys := by
  have h1 : PlG w W v p' p ((22, cv, cellsC ps) :: [(3, dv, cellsD p), (3, lv, cellsL p), (3, iv, cellsI ps)]) ps ys := h.perm (by
    refine (List.Perm.cons _ (List.Perm.swap _ _ _)).trans (List.Perm.swap _ _ _))
  exact h1.fresh hb (by rw [cellsC_len]; exact ho)
theorem PlG.add2 {p' : Pr} {o u : Value} {ys : List (Value × List Int)} (h : PlG w W v p' p [(22, o, cellsC ps), (3, dv, cellsD p), (3, lv, cellsL p), (3, iv, cellsI ps)] ps ys) (ha : App w.heap.size W W1 o cv') (ho : W1.ownsRow w.heap.size 22 1 cv' (ps.length + 1) (cellsC ps ++ [u])) : PlG w W1 v p' p [(3, iv, (intsI ps).map (Value.int .i64)), (22, cv', cellsC ps ++ [u]), (3, dv, cellsD p), (3, lv, cellsL p)] ps ys := by
  have h1 := h.app ha (zs := cellsC ps ++ [u]) (by rw [List.length_append, cellsC_len]; exact ho)
  rw [cellsI_ints] at h1
  refine h1.perm ?_
  refine (List.Perm.cons _ ((List.Perm.cons _ (List.Perm.swap _ _ _)).trans (List.Perm.swap _ _ _))).trans (List.Perm.swap _ _ _)
theorem PlG.add3 {p' : Pr} {u : Value} {y c : List Int} {z : Int} (h : PlG w W v p' p [(3, iv, (intsI ps).map (Value.int .i64)), (22, cv', cellsC ps ++ [u]), (3, dv, cellsD p), (3, lv, cellsL p)] ps [(u, y)]) (ha : App w.heap.size W W1 iv iv') (ho : W1.ownsRow w.heap.size 3 1 iv' (ps.length + 1) ((intsI ps ++ [z]).map (Value.int .i64))) (hz : z = (p.cl.length : Int)) (hp : p' = addP p c) (hc : NrmP y c) (hy : ∀ l ∈ y, 1 ≤ plc l ∧ plc l < 13) : PlB w W1 v p' dv lv cv' iv' (ps ++ [(u, y, p.cl.length)]) := by
  have h1 := PlG.app1 h ha (by rw [intsI_len]; exact ho)
  have h2 := h1.push (q' := p') hy (by rw [hp]) hc
  have e1 : cellsD p' = cellsD p := by rw [hp]; rfl
  have e2 : cellsL p' = cellsL p := by rw [hp]; rfl
  have e3 : cellsC (ps ++ [(u, y, p.cl.length)]) = cellsC ps ++ [u] := by unfold cellsC; simp
  have e4 : cellsI (ps ++ [(u, y, p.cl.length)]) = (intsI ps ++ [z]).map (Value.int .i64) := by rw [cellsI_ints, hz]; unfold intsI; simp
  have h3 : PlG w W1 v p' p' (rowsP p' dv lv cv' iv' (ps ++ [(u, y, p.cl.length)])) (ps ++ [(u, y, p.cl.length)]) [] := by
    unfold rowsP
    rw [e1, e2, e3, e4]
    refine h2.perm ?_
    exact ((List.Perm.swap _ _ _).trans ((List.Perm.cons _ (List.Perm.swap _ _ _)).trans ((List.Perm.swap _ _ _).trans (List.Perm.cons _ ((List.Perm.cons _ (List.Perm.swap _ _ _)).trans (List.Perm.swap _ _ _)))))).trans (List.Perm.refl _)
  exact h3.b
theorem cellsV_drop {B : Nat} {e : TypeId} {g n cap : Nat} {us : List Value} (h : W.ownsRow B e 1 (.slice (some ⟨g, 0, none⟩) n cap) n us) (k : Nat) : ∀ j u, (us.drop k)[j]? = some u → W.cell? ((⟨g, k, none⟩ : Addr).add j) = some u := fun j u hu => by
  rw [addr_add]
  rw [List.getElem?_drop] at hu
  exact own_cell h hu
/-- Dropped: the rows follow. -/
theorem PlG.dropA {p' : Pr} {o : Value} {K : Nat} (h : PlG w W v p' p (rowsP p dv lv cv iv ps) ps []) (hb : Below W.heap.size W W1) (hK : K ≤ ps.length) (ho : W1.ownsRow W.heap.size 22 1 o K ((cellsC ps).take K)) : PlG w W1 v p' p [(22, o, (cellsC ps).take K), (3, dv, cellsD p), (3, lv, cellsL p), (3, iv, cellsI ps)] ps [] := by
  have h1 : PlG w W v p' p ((22, cv, cellsC ps) :: [(3, dv, cellsD p), (3, lv, cellsL p), (3, iv, cellsI ps)]) ps [] := h.perm (by
    refine (List.Perm.cons _ (List.Perm.swap _ _ _)).trans (List.Perm.swap _ _ _))
  exact h1.fresh hb (by rw [List.length_take, cellsC_len, Nat.min_eq_left hK]; exact ho)
theorem PlG.dropB {p' : Pr} {o : Value} {us zs : List Value} {n : Nat} (h : PlG w W v p' p [(22, o, us), (3, dv, cellsD p), (3, lv, cellsL p), (3, iv, cellsI ps)] ps []) (ha : App w.heap.size W W1 o cv') (hn : zs.length = n) (ho : W1.ownsRow w.heap.size 22 1 cv' n zs) : PlG w W1 v p' p [(3, iv, (intsI ps).map (Value.int .i64)), (22, cv', zs), (3, dv, cellsD p), (3, lv, cellsL p)] ps [] := by
  have h1 := h.app ha (zs := zs) (by rw [hn]; exact ho)
  rw [cellsI_ints] at h1
  refine h1.perm ?_
  refine (List.Perm.cons _ ((List.Perm.cons _ (List.Perm.swap _ _ _)).trans (List.Perm.swap _ _ _))).trans (List.Perm.swap _ _ _)
theorem PlG.dropD {p' : Pr} {o : Value} {K n : Nat} (h : PlG w W v p' p [(3, iv, (intsI ps).map (Value.int .i64)), (22, cv', (cellsC ps).take K ++ (cellsC ps).drop (K + 1)), (3, dv, cellsD p), (3, lv, cellsL p)] ps []) (hK : K < ps.length) (hb : Below W.heap.size W W1) (ho : W1.ownsRow W.heap.size 3 1 o K (((intsI ps).take K).map (Value.int .i64))) (ha : App w.heap.size W1 W2 o iv') (hn : n = K + (ps.length - (K + 1))) (ho2 : W2.ownsRow w.heap.size 3 1 iv' n (((intsI ps).take K).map (Value.int .i64) ++ ((intsI ps).drop (K + 1)).map (Value.int .i64))) (hp : p' = dropP p (ps[K].2.2 : Int)) (hok : dropOk p (ps[K].2.2 : Int) = true) : PlB w W2 v p' dv lv cv' iv' (ps.take K ++ ps.drop (K + 1)) := by
  have l1 : (((intsI ps).take K).map (Value.int .i64)).length = K := by rw [List.length_map, List.length_take, intsI_len]; omega
  have h1 := h.fresh hb (e := 3) (u := o) (xs := ((intsI ps).take K).map (Value.int .i64)) (by rw [l1]; exact ho)
  have l2 : (((intsI ps).take K).map (Value.int .i64) ++ ((intsI ps).drop (K + 1)).map (Value.int .i64)).length = n := by rw [List.length_append, l1, List.length_map, List.length_drop, intsI_len, hn]
  have h2 := h1.app ha (zs := ((intsI ps).take K).map (Value.int .i64) ++ ((intsI ps).drop (K + 1)).map (Value.int .i64)) (by rw [l2]; exact ho2)
  have h3 := h2.drop hK hok
  have e1 : cellsD p' = cellsD p := by rw [hp]; unfold cellsD decP; rw [(dropP_tr _).1, (dropP_tr _).2.1]
  have e2 : cellsL p' = cellsL p := by rw [hp]; unfold cellsL; rw [(dropP_tr _).2.1]
  have e3 : cellsC (ps.take K ++ ps.drop (K + 1)) = (cellsC ps).take K ++ (cellsC ps).drop (K + 1) := by unfold cellsC; rw [List.map_append, List.map_take, List.map_drop]
  have e4 : cellsI (ps.take K ++ ps.drop (K + 1)) = ((intsI ps).take K).map (Value.int .i64) ++ ((intsI ps).drop (K + 1)).map (Value.int .i64) := by rw [cellsI_ints, ← List.map_append]; unfold intsI; rw [List.map_append, List.map_take, List.map_drop]
  have h4 : PlG w W2 v p' p' (rowsP p' dv lv cv' iv' (ps.take K ++ ps.drop (K + 1))) (ps.take K ++ ps.drop (K + 1)) [] := by
    unfold rowsP
    rw [e1, e2, e3, e4]
    rw [← hp] at h3
    refine h3.perm ?_
    exact ((List.Perm.swap _ _ _).trans ((List.Perm.cons _ (List.Perm.swap _ _ _)).trans ((List.Perm.swap _ _ _).trans (List.Perm.cons _ ((List.Perm.cons _ (List.Perm.swap _ _ _)).trans (List.Perm.swap _ _ _)))))).trans (List.Perm.refl _)
  exact h4.b
end
end Go.Proofs.Ytmlgpnaikdpifaa

set_option linter.unusedVariables false
set_option linter.unusedSimpArgs false
namespace Go.Proofs.Ytmlgpnaikdpifaa
open Go.RowKit

/-- What was told last: nothing is wrong, or a clause all of whose literals are false. -/
def BadP (p : Pr) (x : Int) : Prop := x < 0 ∨ ∃ (k : Nat) (c : List Int), x = (k : Int) ∧ p.cl.getD k none = some c ∧ ∀ l ∈ c, -l ∈ p.tr
theorem BadP.of {p p' : Pr} {x : Int} (h : PrpR p x p') : BadP p' x := by
  obtain ⟨_, _, _, _, _, hr⟩ := h
  rcases hr with ⟨e, _⟩ | hr
  · exact .inl (by omega)
  · exact .inr hr

set_option maxRecDepth 8000 in
set_option maxHeartbeats 40000000 in
theorem lawPl (la : Option Addr) (lc : Nat) (ls : List Int) (ta : Option Addr) (tc : Nat) (td : List DoR) (w : World) (hl : RowAt w la lc ls) (ht : DoRAt w ta tc td)
    (hli : ∀ y ∈ ls, -9223372036854775808 ≤ y ∧ y ≤ 9223372036854775807) (hti : ∀ d ∈ td, bdR d) :
    Calls Try.prog 3 #[.slice la ls.length lc, .slice ta td.length tc] w fun e w' => e = .returned (.bool true) ∧ Below w.heap.size w w' := by
  have HRL : Hid (∀ V, Below w.heap.size w V → Row V (.slice la ls.length lc) ls) := fun V hV => Row.keep ⟨la, lc, rfl, hl⟩ hV
  obtain ⟨hl1, hl2, hl3⟩ := hl
  obtain ⟨ht1, ht2, ht3⟩ := ht
  unfold maxLen at hl2 ht2
  have HTX := Lib.hid ht3; clear ht3
  clear hl3
  have HLI := Lib.hid hli; clear hli
  have HTI : Hid (∀ k, k < td.length → bdR (td.getD k z0R)) := fun k hk => hti _ (by simp [List.getD, hk])
  clear hti
  generalize hn : ls.length = n at *
  have HN := Lib.hid hn; clear hn
  generalize hm : td.length = m at *
  have HM := Lib.hid hm; clear hm
  by_cases g1 : 100 < n
  · have d1 : decide ((100 : Int) < (n : Int)) = true := decide_eq_true (by omega)
    clear g1
    go_enter Try.func3, Try.ntmps3
    go_wp2_with (go_at_call 9; refine (first15_any _).mono ?_; rintro e w1 ⟨rfl, hb⟩)
    go_ret
    exact ⟨rfl, hb⟩
  have d1 : decide ((100 : Int) < (n : Int)) = false := decide_eq_false (by omega)
  by_cases g2 : 40 < m
  · have d2 : decide ((40 : Int) < (m : Int)) = true := decide_eq_true (by omega)
    clear g1 g2
    go_enter Try.func3, Try.ntmps3
    go_wp2_with (go_at_call 9; refine (first15_any _).mono ?_; rintro e w1 ⟨rfl, hb⟩)
    go_ret
    exact ⟨rfl, hb⟩
  have d2 : decide ((40 : Int) < (m : Int)) = false := decide_eq_false (by omega)
  have hn100 : n ≤ 100 := by omega
  have hm40 : m ≤ 40 := by omega
  clear g1 g2
  go_enter Try.func3, Try.ntmps3
  go_wp2_with fail
  refine (first15_any _).mono ?_
  rintro e w1 ⟨rfl, hb⟩
  have H0 := Lib.hid (ps_new hb 12 (by decide) (by decide))
  clear hb
  go_wp2_with fail
  refine H0.out.mono ?_
  rintro e w2 ⟨u, rfl, hG⟩
  obtain ⟨q, rfl⟩ := hG.ptr
  have HG := Lib.hid hG
  have hra := row_at (HRL.out w2 hG.bel)
  have H1 := Lib.hid (makeCl_any la lc ls 12 w2 (by decide) (by decide) hra.2 HLI.out (by rw [HN.out]; omega))
  rw [HN.out] at H1
  clear hG hra H0 d1 d2
  go_wp2_with fail
  refine H1.out.mono ?_
  rintro e w3 ⟨⟨fv, xss, rfl, hcr, hx1, hx2, hx3⟩, hb3⟩
  have HA0 : Hid (PlA w w3 (.pointer (some ⟨q, 0, none⟩)) (newP 12) (newP 12) (.slice none 0 0) (.slice none 0 0) fv xss []) := by
    have s0 := (PlS.start HG.out).read hb3
    have s1 := (s0.none 3).none 22
    exact ⟨_, _, s1, hcr.rowsT fun i h1 h2 => .inr ⟨h1, h2⟩, by simp, .nil rfl, by simp⟩
  have HXI := Lib.hid (made_in (by decide) hx1)
  have HXL := Lib.hid (made_len hx2)
  have HXR : Hid (∀ c ∈ xss, ∀ l ∈ c, 1 ≤ plc l ∧ plc l < 13) := fun c hc l hl => rgt_of rfl (hx1 c hc l hl)
  obtain ⟨fa, fc, rfl, hf1⟩ := hcr.rows
  have hf2 := hf1.1
  have hf3 := hf1.2.1
  unfold maxLen at hf3
  clear hcr hx1 hx2 hb3 H1 HG hf1
  have HP0 : Hid ((newP 12).n = 12 ∧ (newP 12).st = [] ∧ (newP 12).cl.length ≤ 0) := ⟨by decide, rfl, Nat.le_refl _⟩
  generalize newP 12 = p0 at *
  generalize hL : xss.length = N at *
  have HL := Lib.hid hL; clear hL
  go_wp2_with fail
  go_loopw [7, 8, 10, 11, 12, 13, 14] (fun cv iv i _ _ _ _ W => ∃ (k : Nat) (p : Pr) (ps : List CI), k ≤ N ∧ i = .int .i64 (k : Int) ∧ PlA w W (.pointer (some ⟨q, 0, none⟩)) p p cv iv (.slice fa N fc) xss ps ∧ p.n = 12 ∧ p.st = [] ∧ p.cl.length ≤ k ∧ ps.length ≤ k) (fun _ _ i _ _ _ _ _ => N - (intOf i).toNat)
  case atStart => exact ⟨0, p0, [], Nat.zero_le _, rfl, HA0.out, HP0.out.1, HP0.out.2.1, HP0.out.2.2, Nat.le_refl _⟩
  case round =>
    obtain ⟨k, p, ps, hk, rfl, hA, hpn, hps, hpc, hpl⟩ := hrel
    clear HA0 HP0
    have HA := Lib.hid hA
    have HPN := Lib.hid (And.intro hpn hps)
    clear hA hpn hps
    by_cases hlt : k < N
    · as_aux_lemma =>
      obtain ⟨a', c', b, off, rv, e, ha, hbl, y0, hrow, hsl⟩ := HA.out.rowAt (k := k) (by rw [HL.out]; exact hlt)
      injection e with e1 e2 e3
      subst e1; subst e3; subst ha
      clear e2
      have hmem := getD_memL (l := xss) (i := k) (by rw [HL.out]; exact hlt)
      have HAD := Lib.hid (HA.out.add rv _ hrow (HXI.out _ hmem) (by have := HXL.out _ hmem; omega) (by omega))
      have hrx := HXR.out _ hmem
      have HSY : Hid (∀ (bb : Bool) (p' : Pr), AddR p (xss.getD k []) bb p' → bb = saysL (xss.getD k []) ∧ (bb = true → ∃ c, NrmP (xss.getD k []) c ∧ p' = addP p c) ∧ (bb = false → p' = p) ∧ p'.n = 12 ∧ p'.st = [] ∧ p'.cl.length ≤ p.cl.length + 1) := fun bb p' hAR => by
        have hs := addOk_says (n := p.n) (xs := xss.getD k []) (fun l hl => by have := hrx l hl; rw [HPN.out.1]; omega)
        obtain ⟨k1, k2, _, k4⟩ := hAR.keepN
        refine ⟨?_, fun hb => ?_, fun hb => ?_, by rw [k1]; exact HPN.out.1, by rw [k2]; exact HPN.out.2, k4⟩
        · rcases hAR with ⟨h1, h2, _⟩ | ⟨h1, h2, _⟩ <;> rw [h1, ← hs, h2]
        · rcases hAR with ⟨_, _, c, h3, h4⟩ | ⟨h1, _⟩
          · exact ⟨c, h3, h4⟩
          · rw [hb] at h1; cases h1
        · rcases hAR with ⟨h1, _⟩ | ⟨_, _, h3⟩
          · rw [hb] at h1; cases h1
          · exact h3
      have HXB := Lib.hid (And.intro (HXI.out _ hmem) (show (xss.getD k []).length < 1000000000 by have := HXL.out _ hmem; omega))
      have HRX := Lib.hid hrx
      obtain ⟨ra, rn, rc, rfl⟩ := hsl
      clear hmem hrow hrx
      go_wp2_with fail
      refine HAD.out.mono ?_
      rintro e w4 ⟨y, bb, p', hAR, hy, rfl, hA4⟩
      obtain ⟨g1, g2, g3, g4, g5, g6⟩ := HSY.out _ _ hAR
      have HA4 := Lib.hid hA4
      obtain ⟨a', c', b', off', rv4, e, ha, hbl4, y4, hrow4, hsl4⟩ := hA4.rowAt (k := k) (by rw [HL.out]; exact hlt)
      injection e with e1 e2 e3
      subst e1; subst e3
      injection ha with ha
      injection ha with ha1 ha2
      subst ha1; subst ha2
      clear e2
      have HNO := Lib.hid (refNorm_any rv4 _ w4 hrow4 HXB.out.1 HXB.out.2)
      unfold NsPost at HNO
      rw [← g1] at HNO
      obtain ⟨ra4, rn4, rc4, rfl⟩ := hsl4
      have hbb : (bb != bb) = false := by simp
      have HG2 := Lib.hid g2
      have HG3 := Lib.hid g3
      have HG4 := Lib.hid (And.intro g4 (And.intro g5 g6))
      have HY := Lib.hid hy
      clear hAR g1 g2 g3 g4 g5 g6 hA4 hrow4 HAD HSY y0 hbl HA hy
      go_wp2_with fail
      refine HNO.out.mono ?_
      rintro e w5 ⟨nv, nl, rfl, _, hb5, hown5⟩
      have HA5 := Lib.hid (HA4.out.keep hb5)
      obtain ⟨na, nc, rfl, _⟩ := own_row hown5
      have y5 := (hb5.cell (p := ⟨b, off + k, none⟩) hbl4).trans y4
      clear hb5 hown5 y4 HNO HA4
      cases bb with
      | true =>
        obtain ⟨c, hc, hpc'⟩ := HG2.out rfl
        have hyp := HY.out rfl
        subst hyp
        have HC := Lib.hid hc
        have HPC := Lib.hid hpc'
        have hown := HA5.out.ownC
        have hs5 := HA5.out.bel.size
        have HI5 := Lib.hid (fun cv' W1 (ha : App w.heap.size w5 W1 u7 cv') => HA5.out.ownI ha)
        clear hc hpc' HY
        generalize hcl : p.cl.length = cl at *
        have HCL := Lib.hid hcl
        clear hcl
        go_wp2_with (first
          | (at_builtin; refine wpList_appV 27 22 (.slice none 0 0) 24 Try.underlying27 infoInts rfl (by decide) rfl _ _ rfl w5 w.heap.size _ ps.length _ _ rfl hown hs5 (by omega) _ rfl rfl rfl ?_; intro cv6 w6 ho6 hap6)
          | (at_builtin; refine wpList_app1 rfl _ _ rfl w6 w.heap.size _ ps.length _ _ (HI5.out _ _ hap6) (by have := hap6.below.size; omega) (by omega) rfl rfl ?_; intro iv7 w7 ho7 hap7))
        have HA7 := Lib.hid (HA5.out.push (k := k) (by rw [HL.out]; exact hlt) (fun a n' cc b' off' e1 e2 => by
          injection e1 with e1 _ _
          rw [← e1] at e2
          injection e2 with e2
          injection e2 with e2 e3
          subst e2; subst e3
          exact y5) HRX.out (by rw [HPC.out]) HC.out hap6 ho6 hap7 (by rw [HCL.out]; simpa [cellsI, Function.comp_def] using ho7))
        have HG7 := Lib.hid HG4.out
        go_roundw
        case rel => exact ⟨k + 1, p', _, by omega, by go_num, HA7.out, HG7.out.1, HG7.out.2.1, by have := HG7.out.2.2; omega, by simp; omega⟩
        case measure => go_light; simp [intOf]; omega
      | false =>
        have hpp := HG3.out rfl
        have HPP := Lib.hid hpp
        clear hpp
        go_wp2_with fail
        go_roundw
        case rel => exact ⟨k + 1, p, ps, by omega, by go_num, by rw [← HPP.out]; rw [HPP.out] at HA5; exact HPP.out ▸ HA5.out, HPN.out.1, HPN.out.2, by omega, by omega⟩
        case measure => go_light; simp [intOf]; omega
    · have HB0 := Lib.hid (PlB.start HA.out HPN.out.2)
      have H1 := Lib.hid (HB0.out.prop (by omega))
      go_wp2_with fail
      refine H1.out.mono ?_
      rintro e w4 ⟨x, p1, hR, rfl, hB⟩
      have HN1 : Hid (p1.n = 12) := by unfold Hid; rw [hR.1]; exact HPN.out.1
      have HC1 : Hid (p1.cl.length ≤ 100) := by unfold Hid; rw [hR.2.1]; omega
      have H2 := Lib.hid (hB.holds HN1.out (SaidP.of hR))
      have HBAD := Lib.hid (BadP.of hR)
      have HB1 := Lib.hid hB
      clear hR hB H1 HB0 HA
      go_wp2_with fail
      refine H2.out.mono ?_
      rintro e w5 ⟨rfl, hb5⟩
      have HB2 := Lib.hid (HB1.out.keep hb5)
      clear hb5 H2 HB1
      go_wp2_with fail
      have HI0 : Hid (∃ dv lv, (dv = .slice none 0 0 ∧ lv = .slice (some ⟨wr.heap.size, 0, none⟩) 1 1) ∧ PlB w w5 (.pointer (some ⟨q, 0, none⟩)) p1 dv lv u7 u8 ps) := ⟨_, _, ⟨rfl, rfl⟩, HB2.out⟩
      go_loopw [7, 8, 15, 16, 17, 18, 19, 20, 21, 22, 23, 24, 25, 26, 27, 28, 29, 30, 31] (fun cv iv dv lv bv i _ _ _ _ _ _ _ _ _ _ _ _ _ W => ∃ (k : Nat) (p : Pr) (ps : List CI) (x : Int), k ≤ m ∧ i = .int .i64 (k : Int) ∧ bv = .int .i64 x ∧ PlB w W (.pointer (some ⟨q, 0, none⟩)) p dv lv cv iv ps ∧ BadP p x ∧ p.n = 12 ∧ p.cl.length ≤ 100 + k ∧ ps.length ≤ 100 + k) (fun _ _ _ _ _ i _ _ _ _ _ _ _ _ _ _ _ _ _ _ => m - (intOf i).toNat)
      case atStart => exact ⟨0, p1, ps, x, Nat.zero_le _, rfl, rfl, HB2.out, HBAD.out, HN1.out, HC1.out, by omega⟩
      case round =>
        obtain ⟨k2, p2, ps2, x2, hk2, rfl, rfl, hB, hbad, hpn, hpc2, hpl2⟩ := hrel
        clear HI0 HB2 HBAD HN1 HC1
        have HB := Lib.hid hB
        have HBAD := Lib.hid hbad
        have HPN2 := Lib.hid hpn
        clear hB hbad hpn
        by_cases hlt2 : k2 < m
        · obtain ⟨b, off, ha, hbl, hcell⟩ := HTX.out.resolve_left (by omega)
          subst ha
          obtain ⟨y1, y2, cv9, y3, hrow⟩ := hcell k2 hlt2
          have hbw := HB.out.bel
          have z1 := (hbw.cell (p := ⟨b, off + k2 * 3, none⟩) hbl).trans y1
          have z2 := (hbw.cell (p := ⟨b, off + k2 * 3 + 1, none⟩) hbl).trans y2
          have z3 := (hbw.cell (p := ⟨b, off + k2 * 3 + 2, none⟩) hbl).trans y3
          have HDR := Lib.hid (hrow.keep hbw)
          have hbd := HTI.out k2 hlt2
          obtain ⟨⟨b11, b12⟩, ⟨b21, b22⟩, hb3⟩ := hbd
          have HDB := Lib.hid hb3
          clear y1 y2 y3 hcell hbw hb3
          generalize (td.getD k2 z0R).1 = kd at *
          generalize (td.getD k2 z0R).2.1 = dl at *
          generalize (td.getD k2 z0R).2.2 = ds at *
          obtain ⟨da, dc, rfl, hd1, hd2, hd3⟩ := hrow
          unfold maxLen at hd2
          clear hd3
          generalize hD : ds.length = D at *
          have HD := Lib.hid hD; clear hD
          by_cases h8 : 8 < D
          · have e8 : decide ((8 : Int) < (D : Int)) = true := decide_eq_true (by omega)
            have HBE := Lib.hid HB.out.bel
            clear h8
            go_wp2_with fail
            go_ret
            exact ⟨rfl, HBE.out.alloc HBE.out.size _⟩
          · have e8 : decide ((8 : Int) < (D : Int)) = false := decide_eq_false (by omega)
            have hD8 : D ≤ 8 := by omega
            clear h8
            have HB4 := Lib.hid (HB.out.keep ((Below.refl _ _).alloc (Nat.le_refl _) (.cells #[.int .i64 kd, .int .i64 dl, .slice da D dc] 36)))
            have HDR4 := Lib.hid (HDR.out.keep ((Below.refl wr.heap.size wr).alloc (Nat.le_refl _) (.cells #[.int .i64 kd, .int .i64 dl, .slice da D dc] 36)))
            obtain ⟨o1, o2, o3, o4⟩ := HB4.out.g.own4
            obtain ⟨aD, cD, rfl, hD1, hD2⟩ := own_shape o1
            obtain ⟨aL, cL, rfl, hL1, hL2⟩ := own_shape o2
            obtain ⟨aC, cC, rfl, hC1, hC2⟩ := own_shape o3
            obtain ⟨aI, cI, rfl, hI1, hI2⟩ := own_shape o4
            have HO4 := Lib.hid (And.intro o1 (And.intro o2 (And.intro o3 o4)))
            have HW2 := Lib.hid HB.out.wf
            unfold maxLen at hD2 hL2 hC2 hI2
            have hdl := decP_len p2
            rw [hdl] at HO4 hD1 HB HB4 ⊢
            have HDL := Lib.hid hdl
            have hst12 : p2.st.length ≤ 13 := by
              have h1 := HW2.out.tr_len
              have hs : p2.st.Nodup := HW2.out.sorted.imp fun hab => Nat.ne_of_lt hab
              have hsub : ∀ s ∈ p2.st, s ∈ List.range p2.tr.length := fun s hs => List.mem_range.2 (HW2.out.lt s hs)
              have h2 := hs.length_le_of_subset hsub
              rw [List.length_range] at h2
              have := HPN2.out
              omega
            clear o1 o2 o3 o4 hdl
            generalize hsl : p2.st.length = sl at *
            have HSL := Lib.hid hsl
            clear hsl
            generalize hpl : ps2.length = pl at *
            have HPL := Lib.hid hpl
            clear hpl
            go_upto_block 4 with fail
            go_cut [7, 8, 15, 16, 20, 21, 22, 23, 24, 25, 26, 27, 28, 29, 30, 31] (fun cv iv dv lv _ _ _ _ _ _ _ _ _ _ _ _ W => ∃ (p3 : Pr) (ps3 : List CI), PlB w W (.pointer (some ⟨q, 0, none⟩)) p3 dv lv cv iv ps3 ∧ p3.n = 12 ∧ p3.cl.length ≤ 101 + k2 ∧ ps3.length ≤ 101 + k2)
            case first =>
              by_cases k1 : kd = 1
              · have b1 : (kd == 1) = true := by simp [k1]
                by_cases hx0 : 0 ≤ x2
                · as_aux_lemma =>
                  have d3 : decide (0 ≤ x2) = true := decide_eq_true hx0
                  clear hx0 k1
                  go_wp2_with fail
                  refine ⟨⟨k2 + 1, p2, ps2, x2, by omega, by go_num, rfl, HB4.out, HBAD.out, HPN2.out, by omega, by rw [HPL.out]; omega⟩, ?_⟩
                  go_light; simp [intOf]; omega
                · have d3 : decide (0 ≤ x2) = false := decide_eq_false hx0
                  have HLT := Lib.hid (fun W => lit_any dl 12 W (by decide) (by decide) b21 b22)
                  have hxb := litOf_bd dl 12 (by decide)
                  have hplc : 1 ≤ plc (litOf dl 12) ∧ plc (litOf dl 12) ≤ 12 := by
                    have := plc_absI (litOf dl 12)
                    unfold absI at this
                    split at this <;> omega
                  generalize litOf dl 12 = l at *
                  have HV := Lib.hid (HB4.out.g.val l (by omega) (by omega))
                  have HD := Lib.hid (HB4.out.g.dec l (by omega) (by omega))
                  clear hx0 k1
                  by_cases hv : valP p2 l = 0
                  · as_aux_lemma =>
                    have hok : decOk p2 l = true := by unfold decOk; rw [HPN2.out, decide_eq_true hplc, decide_eq_true hv]; rfl
                    rw [hok] at HD
                    have HOK := Lib.hid hok
                    have d4 : (valP p2 l == 0) = true := by simp [hv]
                    clear hv hok hplc hxb
                    generalize valP p2 l = x9 at *
                    go_wp2_with fail
                    refine (HLT.out _).mono ?_
                    rintro e w7 ⟨rfl, rfl⟩
                    go_wp2_with fail
                    refine HV.out.mono ?_
                    rintro e w7 ⟨rfl, rfl⟩
                    go_wp2_with fail
                    refine HD.out.mono ?_
                    rintro e w8 ⟨rfl, hG⟩
                    have HG := Lib.hid hG
                    have HO1 : Hid (w8.ownsRow w.heap.size 3 1 (.slice aD sl cD) sl ((decP p2).map (Value.int .i64))) := by
                      have := hG.ownI (xs := decP p2) (u := .slice aD sl cD) (e := 3) (by simp [cellsD])
                      rwa [HDL.out] at this
                    have hs8 := hG.bel.size
                    have HOL : Hid (∀ dv9 w9, App w.heap.size w8 w9 (.slice aD sl cD) dv9 → w9.ownsRow w.heap.size 3 1 dv9 (sl + 1) ((decP p2 ++ [l]).map (Value.int .i64)) → w9.ownsRow w.heap.size 3 1 (.slice aL (sl + 1) cL) (sl + 1) ((intsL p2).map (Value.int .i64)) ∧ w.heap.size ≤ w9.heap.size) := fun dv9 w9 h1 h2 => by
                      have hg := HG.out.dec1 (n := sl) (by rw [HDL.out]) h1 h2
                      have := hg.ownI (xs := intsL p2) (u := .slice aL (sl + 1) cL) (e := 3) (by simp)
                      rw [intsL_len, HSL.out] at this
                      exact ⟨this, hg.bel.size⟩
                    clear hG
                    go_wp2_with (first
                      | (at_builtin; refine wpList_app1 rfl _ _ rfl w8 w.heap.size _ sl _ l HO1.out hs8 (by omega) rfl rfl ?_; intro dv9 w9 ho9 ha9; obtain ⟨a9, c9, rfl, h91, h92⟩ := own_shape ho9; unfold maxLen at h92)
                      | (at_builtin; refine wpList_app1 rfl _ _ rfl w9 w.heap.size _ (sl + 1) (intsL p2) _ (HOL.out _ _ ha9 ho9).1 (HOL.out _ _ ha9 ho9).2 (by omega) rfl rfl ?_; intro lv9 w10 ho10 ha10))
                    go_meet
                    exact ⟨decdP p2 l, ps2, PlG.dec2 HW2.out HOK.out (HG.out.dec1 (n := sl) (by rw [HDL.out]) ha9 ho9) (by rw [HSL.out]) (by rw [HDL.out]; first | rfl | omega) ha10 ho10, (decd_cells HW2.out HOK.out).2.2.2.1.trans HPN2.out, by rw [(decd_cells HW2.out HOK.out).2.2.1]; omega, by rw [HPL.out]; omega⟩
                  · as_aux_lemma =>
                    have hok : decOk p2 l = false := by unfold decOk; rw [decide_eq_false hv, Bool.and_false]
                    rw [hok] at HD
                    have HOK := Lib.hid hok
                    have d4 : (valP p2 l == 0) = false := by simp [hv]
                    clear hv hok hplc hxb
                    generalize valP p2 l = x9 at *
                    go_wp2_with fail
                    refine (HLT.out _).mono ?_
                    rintro e w7 ⟨rfl, rfl⟩
                    go_wp2_with fail
                    refine HV.out.mono ?_
                    rintro e w7 ⟨rfl, rfl⟩
                    go_wp2_with fail
                    refine HD.out.mono ?_
                    rintro e w8 ⟨rfl, hG⟩
                    have HG := Lib.hid hG
                    clear hG
                    go_wp2_with fail
                    go_meet
                    exact ⟨p2, ps2, HG.out.dec0 HOK.out, HPN2.out, by omega, by rw [HPL.out]; omega⟩
              · have b1 : (kd == 1) = false := by simp [k1]
                by_cases k2' : kd = 2
                · as_aux_lemma =>
                  have b2 : (kd == 2) = true := by simp [k2']
                  obtain ⟨K, hK, hK1⟩ : ∃ K : Nat, dl % ((sl : Int) + 1) = (K : Int) ∧ K ≤ sl := by
                    have h1 := Int.emod_nonneg dl (show ((sl : Int) + 1) ≠ 0 by omega)
                    have h2 := Int.emod_lt_of_pos dl (show (0 : Int) < (sl : Int) + 1 by omega)
                    exact ⟨(dl % ((sl : Int) + 1)).toNat, by omega, by omega⟩
                  have HNB := Lib.hid (number_any dl ((sl : Int) + 1) (wr.alloc (.cells #[.int .i64 kd, .int .i64 dl, .slice da D dc] 36)) (by omega) (by omega) b21 b22)
                  rw [hK] at HNB
                  have HBK := Lib.hid (HB4.out.g.back (K : Int) (by omega) (by omega))
                  clear hK k1 k2' b11 b12 b21 b22
                  go_wp2_with fail
                  refine HNB.out.mono ?_
                  rintro e w7 ⟨rfl, rfl⟩
                  go_wp2_with fail
                  refine HBK.out.mono ?_
                  rintro e w8 ⟨rfl, hG⟩
                  have HG := Lib.hid hG
                  have HR1 : Hid (Row w8 (.slice aL (K + 1) cL) ((intsL p2).take (K + 1))) := by
                    have h1 := hG.ownI (xs := intsL p2) (u := .slice aL (sl + 1) cL) (e := 3) (by simp [cellsL_ints])
                    exact row_take (own_row h1) (by rw [intsL_len, HSL.out]; omega)
                  have HR2 : Hid (Row w8 (.slice aD K cD) ((decP p2).take K)) := by
                    have h1 := hG.ownI (xs := decP p2) (u := .slice aD sl cD) (e := 3) (by simp [cellsD])
                    exact row_take (own_row h1) (by rw [HDL.out]; omega)
                  have hl1 : ((intsL p2).take (K + 1)).length = K + 1 := by rw [List.length_take, intsL_len, HSL.out]; omega
                  have hl2 : ((decP p2).take K).length = K := by rw [List.length_take, HDL.out]; omega
                  have HI1 := Lib.hid (ints_any _ _ w8 HR1.out (by rw [hl1]; omega))
                  rw [hl1] at HI1
                  have HL2 := Lib.hid hl2
                  have hKL : (K : Int) + 1 ≤ (cL : Int) := by omega
                  have hKD : (K : Int) ≤ (cD : Int) := by omega
                  clear hG hl1 hl2 HBK HNB
                  go_wp2_with fail
                  refine HI1.out.mono ?_
                  rintro e w9 ⟨lv9, rfl, ho9, hb9⟩
                  obtain ⟨g9, c9, rfl⟩ := own_at ho9 (by omega)
                  have y9 := own_cell (u := .int .i64 (K : Int)) ho9 (i := K) (by unfold intsL; rw [List.getElem?_map, List.getElem?_take, if_pos (by omega), List.getElem?_map, List.getElem?_range (by rw [HSL.out]; omega)]; rfl)
                  have HI2 := Lib.hid (ints_any _ _ w9 (HR2.out.keep hb9) (by rw [HL2.out]; omega))
                  rw [HL2.out] at HI2
                  have HO9 := Lib.hid ho9
                  have HB9 := Lib.hid hb9
                  clear ho9 hb9 HI1
                  go_wp2_with fail
                  refine HI2.out.mono ?_
                  rintro e w10 ⟨dv9, rfl, ho10, hb10⟩
                  go_wp2_with fail
                  go_meet
                  exact ⟨backP p2 (K : Int), ps2, HG.out.back1 HW2.out (by rw [HSL.out]; omega) HB9.out HO9.out hb10 ho10, (back_cells HW2.out (by rw [HSL.out]; omega)).2.2.2.trans HPN2.out, by rw [(back_cells HW2.out (by rw [HSL.out]; omega)).2.2.1]; omega, by rw [HPL.out]; omega⟩
                · have b2 : (kd == 2) = false := by simp [k2']
                  by_cases k3 : kd = 3
                  · as_aux_lemma =>
                    have b3 : (kd == 3) = true := by simp [k3]
                    have HC2 : Hid (∀ W, Below (wr.heap.size + 1) (wr.alloc (.cells #[.int .i64 kd, .int .i64 dl, .slice da D dc] 36)) W → W.cell? ⟨wr.heap.size, 2, none⟩ = some (.slice da D dc)) := fun W hW => (hW.cell (p := ⟨wr.heap.size, 2, none⟩) (Nat.lt_succ_self _)).trans (by unfold World.cell?; rw [show (wr.alloc (.cells #[.int .i64 kd, .int .i64 dl, .slice da D dc] 36)).heap[wr.heap.size]? = _ from heap_alloc_new wr _]; rfl)
                    have HEL : Hid (∀ W, Below (wr.heap.size + 1) (wr.alloc (.cells #[.int .i64 kd, .int .i64 dl, .slice da D dc] 36)) W → Row W (.slice da D dc) ds) := fun W hW => HDR4.out.keep (by rw [show (wr.alloc (.cells #[.int .i64 kd, .int .i64 dl, .slice da D dc] 36)).heap.size = wr.heap.size + 1 from Array.size_push _]; exact hW)
                    clear k1 k2' k3 b11 b12 b21 b22 HDR HDR4 z1 z2 z3
                    generalize hWD : wr.alloc (.cells #[.int .i64 kd, .int .i64 dl, .slice da D dc] 36) = WD at *
                    have hWS : WD.heap.size = wr.heap.size + 1 := by rw [← hWD]; exact Array.size_push _
                    rw [← hWS] at HC2 HEL
                    clear hWD hWS HB
                    generalize wr.heap.size = G at *
                    go_wp2_with fail
                    go_loopw [23, 24] (fun yv kv W => ∃ j : Nat, j ≤ D ∧ kv = .int .i64 (j : Int) ∧ W.ownsRow WD.heap.size 3 1 yv j (((ds.take j).map fun x => litOf x 12).map (Value.int .i64)) ∧ Below WD.heap.size WD W) (fun _ kv _ => D - (intOf kv).toNat)
                    case atStart => exact ⟨0, Nat.zero_le _, rfl, World.ownsRow_nil _ _ _ _, Below.refl _ _⟩
                    case round =>
                      obtain ⟨j, hj, rfl, hown, hbj⟩ := hrel
                      have HBJ := Lib.hid hbj
                      have HOJ := Lib.hid hown
                      have hsj := hbj.size
                      have c2 := HC2.out wr hbj
                      have HRW := Lib.hid (HEL.out wr hbj)
                      obtain ⟨yaj, ycj, rfl, hy1, hy2⟩ := own_shape hown
                      unfold maxLen at hy2
                      clear hbj hown
                      by_cases hjl : j < D
                      · as_aux_lemma =>
                        obtain ⟨a', c', e', _, _, hx3'⟩ := HRW.out
                        injection e' with e1 e2 e3
                        subst e1; subst e3
                        clear e2
                        obtain ⟨b2, off2, ha2, hbl2, hcell2⟩ := hx3'.resolve_left (by rw [HD.out]; omega)
                        subst ha2
                        have y5 := hcell2 j (by rw [HD.out]; exact hjl)
                        have hyb := HDB.out _ (getD_mem (l := ds) (i := j) (by rw [HD.out]; exact hjl))
                        have HTK : Hid (((ds.take (j + 1)).map fun x => litOf x 12) = ((ds.take j).map fun x => litOf x 12) ++ [litOf (ds.getD j 0) 12]) := by
                          unfold Hid
                          rw [take_snoc ds j (by rw [HD.out]; exact hjl), List.map_append]; rfl
                        have HLT := Lib.hid (fun W => lit_any (ds.getD j 0) 12 W (by decide) (by decide) hyb.1 hyb.2)
                        clear hcell2 hx3' hyb HRW
                        generalize ds.getD j 0 = y at *
                        generalize litOf y 12 = ly at *
                        go_wp2_with fail
                        refine (HLT.out _).mono ?_
                        rintro e w7 ⟨rfl, rfl⟩
                        go_wp2_with (at_builtin; refine wpList_app1 rfl _ _ rfl wr WD.heap.size _ j _ ly HOJ.out hsj (by omega) rfl rfl ?_; intro yv9 w9 ho9 ha9)
                        go_roundw
                        case rel => exact ⟨j + 1, by omega, by go_num, by rw [HTK.out]; exact ho9, HBJ.out.trans (ha9.below.mono (Nat.le_refl _))⟩
                        case measure => go_light; simp [intOf]; omega
                      · as_aux_lemma =>
                        have e5 : decide ((j : Int) < (D : Int)) = false := decide_eq_false (by omega)
                        have e6 : decide (j < D) = false := decide_eq_false hjl
                        have hjD : j = D := by omega
                        have htk : ds.take j = ds := List.take_of_length_le (by rw [HD.out, hjD]; exact Nat.le_refl _)
                        rw [htk] at HOJ
                        obtain ⟨yl, hyl⟩ : ∃ yl, (ds.map fun x => litOf x 12) = yl := ⟨_, rfl⟩
                        have hyn : yl.length = j := by rw [← hyl, List.length_map, HD.out, hjD]
                        have hyr : ∀ l ∈ yl, (1 ≤ plc l ∧ plc l < 13) ∧ -4000 ≤ l ∧ l ≤ 4000 := fun l hl => by
                          rw [← hyl] at hl
                          obtain ⟨x, hx, rfl⟩ := List.mem_map.1 hl
                          have h1 := litOf_bd x 12 (by decide)
                          have h2 := plc_absI (litOf x 12)
                          unfold absI at h2
                          split at h2 <;> omega
                        rw [hyl] at HOJ
                        have HYR := Lib.hid hyr
                        have HYN := Lib.hid hyn
                        have hj8 : j ≤ 8 := by omega
                        have HG5 := Lib.hid (HB4.out.g.take HBJ.out HOJ.out)
                        have HIW : Hid (InW yl) := fun l hl => by have := HYR.out l hl; omega
                        have HA := Lib.hid (HG5.out.addC _ yl (HG5.out.row (x := (.slice yaj j ycj, yl)) (by simp)) HIW.out (by rw [HYN.out]; omega) (by omega))
                        have HSY : Hid (∀ (bb : Bool) (p' : Pr), AddR p2 yl bb p' → bb = saysL yl ∧ (bb = true → ∃ c, NrmP yl c ∧ p' = addP p2 c) ∧ (bb = false → p' = p2) ∧ p'.n = 12 ∧ p'.cl.length ≤ p2.cl.length + 1) := fun bb p' hAR => by
                          have hs := addOk_says (n := p2.n) (xs := yl) (fun l hl => by have := HYR.out l hl; rw [HPN2.out]; omega)
                          obtain ⟨k1, k2, _, k4⟩ := hAR.keepN
                          refine ⟨?_, fun hb => ?_, fun hb => ?_, by rw [k1]; exact HPN2.out, k4⟩
                          · rcases hAR with ⟨h1, h2, _⟩ | ⟨h1, h2, _⟩ <;> rw [h1, ← hs, h2]
                          · rcases hAR with ⟨_, _, c, h3, h4⟩ | ⟨h1, _⟩
                            · exact ⟨c, h3, h4⟩
                            · rw [hb] at h1; cases h1
                          · rcases hAR with ⟨h1, _⟩ | ⟨_, _, h3⟩
                            · rw [hb] at h1; cases h1
                            · exact h3
                        clear hyl hyn hyr htk hjD hjl HRW HBJ HOJ HB4 HC2 HEL HO4 HDB
                        go_wp2_with fail
                        refine HA.out.mono ?_
                        rintro e w6 ⟨z, bb, p', hAR, hz, rfl, hG6⟩
                        obtain ⟨g1, g2, g3, g4, g6⟩ := HSY.out _ _ hAR
                        have HG6 := Lib.hid hG6
                        have HNO := Lib.hid (refNorm_any _ yl w6 (hG6.row (x := (.slice yaj j ycj, yl)) (by simp)) HIW.out (by rw [HYN.out]; omega))
                        unfold NsPost at HNO
                        rw [← g1] at HNO
                        have hbb : (bb != bb) = false := by simp
                        have HG2 := Lib.hid g2
                        have HG3 := Lib.hid g3
                        have HG4 := Lib.hid (And.intro g4 g6)
                        have HZ := Lib.hid hz
                        clear hAR g1 g2 g3 g4 g6 hG6 hz HA HSY HG5
                        go_wp2_with fail
                        refine HNO.out.mono ?_
                        rintro e w7 ⟨nv, nl, rfl, _, hb7, hown7⟩
                        have HG7 := Lib.hid (HG6.out.keep hb7)
                        obtain ⟨na, nc, rfl, _⟩ := own_row hown7
                        clear hb7 hown7 HNO HG6
                        cases bb with
                        | true =>
                          obtain ⟨c, hc, hpc'⟩ := HG2.out rfl
                          have hzz := HZ.out rfl
                          subst hzz
                          have HC := Lib.hid hc
                          have HPC := Lib.hid hpc'
                          have HCL := Lib.hid (clsR_any _ (cellsC ps2) w7 (HRow.own (HG7.out.own4').2.2.1 (by rw [cellsC_len])) HG7.out.isS (by rw [cellsC_len, HPL.out]; omega))
                          rw [cellsC_len, HPL.out] at HCL
                          clear hc hpc' HZ HG2 HG3
                          go_wp2_with fail
                          refine HCL.out.mono ?_
                          rintro e w8 ⟨o, rfl, ho8, hb8⟩
                          have HG8 := Lib.hid (HG7.out.add1 hb8 (by rw [HPL.out]; exact ho8))
                          obtain ⟨ao, co, rfl, hao1, hao2⟩ := own_shape ho8
                          unfold maxLen at hao2
                          have HO8 : Hid (w8.ownsRow w.heap.size 22 1 (.slice ao pl co) pl (cellsC ps2)) := by
                            have := HG8.out.own (r := (22, .slice ao pl co, cellsC ps2)) (by simp)
                            rwa [cellsC_len, HPL.out] at this
                          have hs8 := HG8.out.bel.size
                          have HOI : Hid (∀ cv9 w9, App w.heap.size w8 w9 (.slice ao pl co) cv9 → w9.ownsRow w.heap.size 22 1 cv9 (pl + 1) (cellsC ps2 ++ [.slice yaj j ycj]) → w9.ownsRow w.heap.size 3 1 (.slice aI pl cI) pl ((intsI ps2).map (Value.int .i64)) ∧ w.heap.size ≤ w9.heap.size) := fun cv9 w9 h1 h2 => by
                            have hg := HG8.out.add2 h1 (by rw [HPL.out]; exact h2)
                            have := hg.ownI (xs := intsI ps2) (u := .slice aI pl cI) (e := 3) (by simp)
                            rw [intsI_len, HPL.out] at this
                            exact ⟨this, hg.bel.size⟩
                          clear ho8 hb8 HCL HG7
                          go_wp2_with (first
                            | (at_builtin; refine wpList_appV 27 22 (.slice none 0 0) 24 Try.underlying27 infoInts rfl (by decide) rfl _ _ rfl w8 w.heap.size _ pl _ (.slice yaj j ycj) rfl HO8.out hs8 (by omega) _ rfl rfl rfl ?_; intro cv9 w9 ho9 ha9)
                            | (at_builtin; refine wpList_app1 rfl _ _ rfl w9 w.heap.size _ pl (intsI ps2) _ (HOI.out _ _ ha9 ho9).1 (HOI.out _ _ ha9 ho9).2 (by omega) rfl rfl ?_; intro iv9 w10 ho10 ha10))
                          go_meet
                          exact ⟨p', _, (HG8.out.add2 ha9 (by rw [HPL.out]; exact ho9)).add3 ha10 (by rw [HPL.out]; exact ho10) rfl HPC.out HC.out (fun l hl => (HYR.out l hl).1), HG4.out.1, by have := HG4.out.2; omega, by rw [List.length_append, HPL.out]; simp; omega⟩
                        | false =>
                          have hpp := HG3.out rfl
                          have HPP := Lib.hid hpp
                          clear hpp
                          go_wp2_with fail
                          go_meet
                          exact ⟨p2, ps2, by have := HG7.out; rw [HPP.out] at this; exact this.b, HPN2.out, by omega, by rw [HPL.out]; omega⟩
                  · have b3 : (kd == 3) = false := by simp [k3]
                    by_cases k4 : pl = 0
                    · as_aux_lemma =>
                      have d4 : ((pl : Int) == 0) = true := by simp [k4]
                      clear k1 k2' k3 k4
                      go_wp2_with fail
                      refine ⟨⟨k2 + 1, p2, ps2, x2, by omega, by go_num, rfl, HB4.out, HBAD.out, HPN2.out, by omega, by rw [HPL.out]; omega⟩, ?_⟩
                      go_light; simp [intOf]; omega
                    · as_aux_lemma =>
                      have d4 : ((pl : Int) == 0) = false := by simp [k4]
                      obtain ⟨K, hK, hK1⟩ : ∃ K : Nat, dl % (pl : Int) = (K : Int) ∧ K < pl := by
                        have h1 := Int.emod_nonneg dl (show (pl : Int) ≠ 0 by omega)
                        have h2 := Int.emod_lt_of_pos dl (show (0 : Int) < (pl : Int) by omega)
                        exact ⟨(dl % (pl : Int)).toNat, by omega, by omega⟩
                      have HNB := Lib.hid (number_any dl (pl : Int) (wr.alloc (.cells #[.int .i64 kd, .int .i64 dl, .slice da D dc] 36)) (by omega) (by omega) b21 b22)
                      rw [hK] at HNB
                      have o4 := HO4.out.2.2.2
                      obtain ⟨gI, cI', eI⟩ := own_at o4 (by omega)
                      injection eI with eI1 eI2 eI3
                      subst eI1; subst eI3
                      clear eI2
                      have yI := own_cell (u := .int .i64 ((ps2.getD K (nilSl, [], 0)).2.2 : Int)) o4 (i := K) (by
                        unfold intsI
                        rw [List.getElem?_map, List.getElem?_map, List.getElem?_eq_getElem (by rw [HPL.out]; exact hK1)]
                        simp [List.getD, List.getElem?_eq_getElem (show K < ps2.length by rw [HPL.out]; exact hK1)])
                      have HGE : Hid (∃ h : K < ps2.length, ps2.getD K (nilSl, [], 0) = ps2[K]) := ⟨by rw [HPL.out]; exact hK1, by simp [List.getD, show K < ps2.length by rw [HPL.out]; exact hK1]⟩
                      have HLE : Hid ((ps2.getD K (nilSl, [], 0)).2.2 < 1000) := by
                        obtain ⟨h1, h2⟩ := HGE.out
                        obtain ⟨T, TI, _, h3⟩ := HB.out.ex
                        have := h3.tell.lt _ (List.mem_map_of_mem (List.getElem_mem h1))
                        unfold Hid
                        rw [h2]
                        (try simp at this)
                        omega
                      generalize hE : ps2.getD K (nilSl, [], 0) = x9 at *
                      have hx9 := HLE.out
                      have HDP := Lib.hid (HB4.out.g.dropC (x9.2.2 : Int) (by omega) (by omega))
                      clear hE hx9
                      clear hK k1 k2' k3 k4 b11 b12 b21 b22 o4
                      go_wp2_with fail
                      refine HNB.out.mono ?_
                      rintro e w7 ⟨rfl, rfl⟩
                      go_wp2_with fail
                      refine HDP.out.mono ?_
                      rintro e w8 ⟨rfl, hG⟩
                      have HG := Lib.hid hG
                      clear hG HDP HNB yI
                      by_cases hok : dropOk p2 (x9.2.2 : Int) = true
                      · have HOK := Lib.hid hok
                        rw [hok]
                        clear hok
                        have HRW : Hid (HRow w8 (.slice aC K cC) ((cellsC ps2).take K)) := HRow.head (HRow.own (HG.out.own4').2.2.1 (by rw [cellsC_len])) (by rw [cellsC_len, HPL.out]; omega)
                        have hlk : ((cellsC ps2).take K).length = K := by rw [List.length_take, cellsC_len, HPL.out]; omega
                        have HCL := Lib.hid (clsR_any _ ((cellsC ps2).take K) w8 HRW.out (fun u hu => HG.out.isS u (List.mem_of_mem_take hu)) (by rw [hlk]; omega))
                        rw [hlk] at HCL
                        have hKC : (K : Int) ≤ (cC : Int) := by omega
                        clear hlk
                        go_wp2_with fail
                        refine HCL.out.mono ?_
                        rintro e w9 ⟨o, rfl, ho9, hb9⟩
                        obtain ⟨ao, co, rfl, hao1, hao2⟩ := own_shape ho9
                        unfold maxLen at hao2
                        have hKC1 : (K : Int) + 1 ≤ (pl : Int) := by omega
                        have oC := own_keep (HG.out.own4').2.2.1 hb9
                        rw [HPL.out] at oC
                        obtain ⟨gC, cC', eC⟩ := own_at oC (by omega)
                        injection eC with eC1 eC2 eC3
                        subst eC1; subst eC3
                        clear eC2
                        have HDC := Lib.hid (cellsV_drop oC (K + 1))
                        have HG9 := Lib.hid (HG.out.dropA hb9 (by rw [HPL.out]; omega) ho9)
                        have HO9 : Hid (w9.ownsRow w.heap.size 22 1 (.slice ao K co) K ((cellsC ps2).take K)) := by
                          have := HG9.out.own (r := (22, .slice ao K co, (cellsC ps2).take K)) (by simp)
                          rwa [List.length_take, cellsC_len, HPL.out, Nat.min_eq_left (by omega)] at this
                        have hs9 := HG9.out.bel.size
                        have HND : Hid (((cellsC ps2).drop (K + 1)).length = (pl - (K + 1)) * 1) := by unfold Hid; rw [List.length_drop, cellsC_len, HPL.out, Nat.mul_one]
                        have HNU : Hid (∀ u ∈ (cellsC ps2).drop (K + 1), u.oneCell' = true) := fun u hu => by
                          obtain ⟨a, n, c, rfl⟩ := HG.out.isS u (List.mem_of_mem_drop hu)
                          rfl
                        have HLZ : Hid (((cellsC ps2).take K ++ (cellsC ps2).drop (K + 1)).length = K + (pl - (K + 1))) := by unfold Hid; rw [List.length_append, List.length_take, List.length_drop, cellsC_len, HPL.out]; omega
                        clear ho9 hb9 HCL HRW oC
                        by_cases hcC : cC = K + 1
                        · as_aux_lemma =>
                          subst hcC
                          have HZC : Hid (∀ (V : World) (cv : Value), V.ownsRow w.heap.size 22 1 cv (K + 0) ((cellsC ps2).take K ++ []) → V.ownsRow w.heap.size 22 1 cv (K + (pl - (K + 1))) ((cellsC ps2).take K ++ (cellsC ps2).drop (K + 1))) := fun V cv h => by
                            rw [show (cellsC ps2).drop (K + 1) = [] from List.drop_eq_nil_of_le (by rw [cellsC_len, HPL.out]; omega), show pl - (K + 1) = 0 by omega]
                            exact h
                          go_wp2_with (at_builtin; refine wpList_appC 27 22 (.slice none 0 0) 1 24 Try.underlying27 infoInts rfl (by decide) (by decide) rfl _ _ rfl w9 w.heap.size _ K _ _ 0 _ [] HO9.out hs9 (by omega) rfl (.inl rfl) (fun u hu => by cases hu) rfl rfl ?_; intro cv9 w10 ho10' ha10; have ho10 := HZC.out _ _ ho10'; clear ho10')
                          clear hC1 HZC
                          have HG10 := Lib.hid (HG9.out.dropB ha10 HLZ.out ho10)
                          have HRI : Hid (Row w10 (.slice (some ⟨gI, 0, none⟩) K cI) ((intsI ps2).take K)) := by
                            have h1 := HG10.out.ownI (xs := intsI ps2) (u := .slice (some ⟨gI, 0, none⟩) pl cI) (e := 3) (by simp)
                            exact row_take (own_row h1) (by rw [intsI_len, HPL.out]; omega)
                          have hlk : ((intsI ps2).take K).length = K := by rw [List.length_take, intsI_len, HPL.out]; omega
                          have HIC := Lib.hid (ints_any _ ((intsI ps2).take K) w10 HRI.out (by rw [hlk]; omega))
                          rw [hlk] at HIC
                          have hKI : (K : Int) ≤ (cI : Int) := by omega
                          clear hlk ho10 ha10 HO9 HDC HND HNU HLZ HG9
                          go_wp2_with fail
                          refine HIC.out.mono ?_
                          rintro e w11 ⟨o2, rfl, ho11, hb11⟩
                          obtain ⟨ao2, co2, rfl, hao3, hao4⟩ := own_shape ho11
                          unfold maxLen at hao4
                          have oI : w11.ownsRow w.heap.size 3 1 (.slice (some ⟨gI, 0, none⟩) pl cI) pl ((intsI ps2).map (Value.int .i64)) := by
                            have h1 := HG10.out.ownI (xs := intsI ps2) (u := .slice (some ⟨gI, 0, none⟩) pl cI) (e := 3) (by simp)
                            rw [intsI_len, HPL.out] at h1
                            exact own_keep h1 hb11
                          have HDI := Lib.hid (cellsV_drop oI (K + 1))
                          rw [← List.map_drop] at HDI
                          have HO11 : Hid (w11.ownsRow w.heap.size 3 1 (.slice ao2 K co2) K (((intsI ps2).take K).map (Value.int .i64))) := own_base ho11 HG10.out.bel.size
                          have hs11 : w.heap.size ≤ w11.heap.size := Nat.le_trans HG10.out.bel.size hb11.size
                          have HNI : Hid ((((intsI ps2).drop (K + 1)).map (Value.int .i64)).length = (pl - (K + 1)) * 1) := by unfold Hid; rw [List.length_map, List.length_drop, intsI_len, HPL.out, Nat.mul_one]
                          have HNV : Hid (∀ u ∈ ((intsI ps2).drop (K + 1)).map (Value.int .i64), u.oneCell' = true) := fun u hu => by
                            obtain ⟨a, _, rfl⟩ := List.mem_map.1 hu
                            rfl
                          have HO12 := Lib.hid ho11
                          have HB11 := Lib.hid hb11
                          clear ho11 hb11 oI HIC HRI
                          by_cases hcI : cI = K + 1
                          · subst hcI
                            have HZI : Hid (∀ (V : World) (iv : Value), V.ownsRow w.heap.size 3 1 iv (K + 0) (((intsI ps2).take K).map (Value.int .i64) ++ []) → V.ownsRow w.heap.size 3 1 iv (K + (pl - (K + 1))) (((intsI ps2).take K).map (Value.int .i64) ++ ((intsI ps2).drop (K + 1)).map (Value.int .i64))) := fun V iv h => by
                              rw [show (intsI ps2).drop (K + 1) = [] from List.drop_eq_nil_of_le (by rw [intsI_len, HPL.out]; omega), show pl - (K + 1) = 0 by omega]
                              exact h
                            go_wp2_with (at_builtin; refine wpList_appC 22 3 (.int .i64 0) 1 8 Try.underlying22 infoInt rfl (by decide) (by decide) rfl _ _ rfl w11 w.heap.size _ K _ _ 0 _ [] HO11.out hs11 (by omega) rfl (.inl rfl) (fun u hu => by cases hu) rfl rfl ?_; intro iv9 w12 ho12' ha12; have ho12 := HZI.out _ _ ho12'; clear ho12')
                            go_meet
                            exact ⟨dropP p2 (x9.2.2 : Int), ps2.take K ++ ps2.drop (K + 1), by obtain ⟨hk, hx⟩ := HGE.out; exact HG10.out.dropD hk HB11.out HO12.out ha12 (by rw [HPL.out]) ho12 (by rw [hx]) (by rw [← hx]; exact HOK.out), (dropP_tr _).2.2.1.trans HPN2.out, by rw [(dropP_tr _).2.2.2]; omega, by rw [List.length_append, List.length_take, List.length_drop, HPL.out]; omega⟩
                          · go_wp2_with (at_builtin; refine wpList_appC 22 3 (.int .i64 0) 1 8 Try.underlying22 infoInt rfl (by decide) (by decide) rfl _ _ rfl w11 w.heap.size _ K _ _ (pl - (K + 1)) _ (((intsI ps2).drop (K + 1)).map (Value.int .i64)) HO11.out hs11 (by omega) HNI.out (by first | exact .inr ⟨_, rfl, HDI.out⟩ | (split <;> first | (left; omega) | exact .inr ⟨_, rfl, HDI.out⟩)) HNV.out rfl rfl ?_; intro iv9 w12 ho12 ha12)
                            go_meet
                            exact ⟨dropP p2 (x9.2.2 : Int), ps2.take K ++ ps2.drop (K + 1), by obtain ⟨hk, hx⟩ := HGE.out; exact HG10.out.dropD hk HB11.out HO12.out ha12 (by rw [HPL.out]) ho12 (by rw [hx]) (by rw [← hx]; exact HOK.out), (dropP_tr _).2.2.1.trans HPN2.out, by rw [(dropP_tr _).2.2.2]; omega, by rw [List.length_append, List.length_take, List.length_drop, HPL.out]; omega⟩
                        · as_aux_lemma =>
                          go_wp2_with (at_builtin; refine wpList_appC 27 22 (.slice none 0 0) 1 24 Try.underlying27 infoInts rfl (by decide) (by decide) rfl _ _ rfl w9 w.heap.size _ K _ _ (pl - (K + 1)) _ ((cellsC ps2).drop (K + 1)) HO9.out hs9 (by omega) HND.out (by first | exact .inr ⟨_, rfl, HDC.out⟩ | (split <;> first | (left; omega) | exact .inr ⟨_, rfl, HDC.out⟩)) HNU.out rfl rfl ?_; intro cv9 w10 ho10 ha10)
                          have HG10 := Lib.hid (HG9.out.dropB ha10 HLZ.out ho10)
                          have HRI : Hid (Row w10 (.slice (some ⟨gI, 0, none⟩) K cI) ((intsI ps2).take K)) := by
                            have h1 := HG10.out.ownI (xs := intsI ps2) (u := .slice (some ⟨gI, 0, none⟩) pl cI) (e := 3) (by simp)
                            exact row_take (own_row h1) (by rw [intsI_len, HPL.out]; omega)
                          have hlk : ((intsI ps2).take K).length = K := by rw [List.length_take, intsI_len, HPL.out]; omega
                          have HIC := Lib.hid (ints_any _ ((intsI ps2).take K) w10 HRI.out (by rw [hlk]; omega))
                          rw [hlk] at HIC
                          have hKI : (K : Int) ≤ (cI : Int) := by omega
                          clear hlk ho10 ha10 HO9 HDC HND HNU HLZ HG9
                          go_wp2_with fail
                          refine HIC.out.mono ?_
                          rintro e w11 ⟨o2, rfl, ho11, hb11⟩
                          obtain ⟨ao2, co2, rfl, hao3, hao4⟩ := own_shape ho11
                          unfold maxLen at hao4
                          have oI : w11.ownsRow w.heap.size 3 1 (.slice (some ⟨gI, 0, none⟩) pl cI) pl ((intsI ps2).map (Value.int .i64)) := by
                            have h1 := HG10.out.ownI (xs := intsI ps2) (u := .slice (some ⟨gI, 0, none⟩) pl cI) (e := 3) (by simp)
                            rw [intsI_len, HPL.out] at h1
                            exact own_keep h1 hb11
                          have HDI := Lib.hid (cellsV_drop oI (K + 1))
                          rw [← List.map_drop] at HDI
                          have HO11 : Hid (w11.ownsRow w.heap.size 3 1 (.slice ao2 K co2) K (((intsI ps2).take K).map (Value.int .i64))) := own_base ho11 HG10.out.bel.size
                          have hs11 : w.heap.size ≤ w11.heap.size := Nat.le_trans HG10.out.bel.size hb11.size
                          have HNI : Hid ((((intsI ps2).drop (K + 1)).map (Value.int .i64)).length = (pl - (K + 1)) * 1) := by unfold Hid; rw [List.length_map, List.length_drop, intsI_len, HPL.out, Nat.mul_one]
                          have HNV : Hid (∀ u ∈ ((intsI ps2).drop (K + 1)).map (Value.int .i64), u.oneCell' = true) := fun u hu => by
                            obtain ⟨a, _, rfl⟩ := List.mem_map.1 hu
                            rfl
                          have HO12 := Lib.hid ho11
                          have HB11 := Lib.hid hb11
                          clear ho11 hb11 oI HIC HRI
                          by_cases hcI : cI = K + 1
                          · subst hcI
                            have HZI : Hid (∀ (V : World) (iv : Value), V.ownsRow w.heap.size 3 1 iv (K + 0) (((intsI ps2).take K).map (Value.int .i64) ++ []) → V.ownsRow w.heap.size 3 1 iv (K + (pl - (K + 1))) (((intsI ps2).take K).map (Value.int .i64) ++ ((intsI ps2).drop (K + 1)).map (Value.int .i64))) := fun V iv h => by
                              rw [show (intsI ps2).drop (K + 1) = [] from List.drop_eq_nil_of_le (by rw [intsI_len, HPL.out]; omega), show pl - (K + 1) = 0 by omega]
                              exact h
                            go_wp2_with (at_builtin; refine wpList_appC 22 3 (.int .i64 0) 1 8 Try.underlying22 infoInt rfl (by decide) (by decide) rfl _ _ rfl w11 w.heap.size _ K _ _ 0 _ [] HO11.out hs11 (by omega) rfl (.inl rfl) (fun u hu => by cases hu) rfl rfl ?_; intro iv9 w12 ho12' ha12; have ho12 := HZI.out _ _ ho12'; clear ho12')
                            go_meet
                            exact ⟨dropP p2 (x9.2.2 : Int), ps2.take K ++ ps2.drop (K + 1), by obtain ⟨hk, hx⟩ := HGE.out; exact HG10.out.dropD hk HB11.out HO12.out ha12 (by rw [HPL.out]) ho12 (by rw [hx]) (by rw [← hx]; exact HOK.out), (dropP_tr _).2.2.1.trans HPN2.out, by rw [(dropP_tr _).2.2.2]; omega, by rw [List.length_append, List.length_take, List.length_drop, HPL.out]; omega⟩
                          · go_wp2_with (at_builtin; refine wpList_appC 22 3 (.int .i64 0) 1 8 Try.underlying22 infoInt rfl (by decide) (by decide) rfl _ _ rfl w11 w.heap.size _ K _ _ (pl - (K + 1)) _ (((intsI ps2).drop (K + 1)).map (Value.int .i64)) HO11.out hs11 (by omega) HNI.out (by first | exact .inr ⟨_, rfl, HDI.out⟩ | (split <;> first | (left; omega) | exact .inr ⟨_, rfl, HDI.out⟩)) HNV.out rfl rfl ?_; intro iv9 w12 ho12 ha12)
                            go_meet
                            exact ⟨dropP p2 (x9.2.2 : Int), ps2.take K ++ ps2.drop (K + 1), by obtain ⟨hk, hx⟩ := HGE.out; exact HG10.out.dropD hk HB11.out HO12.out ha12 (by rw [HPL.out]) ho12 (by rw [hx]) (by rw [← hx]; exact HOK.out), (dropP_tr _).2.2.1.trans HPN2.out, by rw [(dropP_tr _).2.2.2]; omega, by rw [List.length_append, List.length_take, List.length_drop, HPL.out]; omega⟩
                      · have hok' : dropOk p2 (x9.2.2 : Int) = false := by simpa using hok
                        have HPP : Hid (dropP p2 (x9.2.2 : Int) = p2) := by unfold Hid dropP; rw [hok']; rfl
                        rw [hok']
                        clear hok hok'
                        go_wp2_with fail
                        go_meet
                        exact ⟨p2, ps2, by have := HG.out; rw [HPP.out] at this; exact this.b, HPN2.out, by omega, by rw [HPL.out]; omega⟩
            case rest =>
              as_aux_lemma =>
              obtain ⟨p3, ps3, hB3, hn3, hc3, hl3⟩ := hcut
              obtain ⟨aL3, cL3, rfl, hL31, hL32⟩ := own_shape hB3.g.own4.2.1
              unfold maxLen at hL32
              have HP3 := Lib.hid (hB3.prop (by omega))
              have HL3 := Lib.hid hl3
              generalize hs3 : p3.st.length = s3 at *
              have HS3 := Lib.hid hs3
              clear hB3 HB4 HB HDR4 HDR HO4 hs3 hl3 z1 z2 z3 b11 b12 b21 b22
              go_wp2_with fail
              refine HP3.out.mono ?_
              rintro e w4 ⟨x3, p4, hR, rfl, hB⟩
              have HN4 : Hid (p4.n = 12) := hR.1.trans hn3
              have HC4 : Hid (p4.cl.length ≤ 101 + k2) := by unfold Hid; rw [hR.2.1]; exact hc3
              have hs4 : p4.st.length = s3 := by rw [hR.2.2.1]; exact HS3.out
              have HLV := Lib.hid hB.g.lvl
              rw [hs4] at HLV
              have HH := Lib.hid (hB.holds HN4.out (SaidP.of hR))
              have HBAD3 := Lib.hid (BadP.of hR)
              have HB3 := Lib.hid hB
              have hne : (((s3 : Int)) != (s3 : Int)) = false := by simp
              clear hs4 hR hB hn3 hc3 HP3 HS3 HBAD
              go_wp2_with fail
              refine HLV.out.mono ?_
              rintro e w5 ⟨rfl, rfl⟩
              go_wp2_with fail
              refine HH.out.mono ?_
              rintro e w5 ⟨rfl, hb5⟩
              have HB5 := Lib.hid (HB3.out.keep hb5)
              have HRE := Lib.hid (fun W (hW : Below w5.heap.size w5 W) => (HB5.out.keep hW).reasons (by have := HC4.out; omega))
              clear hb5 HB3 HH HLV
              rcases HBAD3.out with hx | ⟨kb, cb, hx, hcb, hfb⟩
              · have d9 : decide (0 ≤ x3) = false := decide_eq_false (by omega)
                clear hx
                go_wp2_with fail
                refine (HRE.out _ (Below.refl _ _)).mono ?_
                rintro e w6 ⟨rfl, hb6⟩
                have HB6 := Lib.hid (HB5.out.keep hb6)
                clear hb6
                go_wp2_with fail
                go_roundw
                case rel => exact ⟨k2 + 1, p4, ps3, x3, by omega, by go_num, rfl, HB6.out, HBAD3.out, HN4.out, by have := HC4.out; omega, by have := HL3.out; omega⟩
                case measure => go_light; simp [intOf]; omega
              · have d9 : decide (0 ≤ x3) = true := decide_eq_true (by omega)
                have HWG := Lib.hid (HB5.out.wrong (by have := HC4.out; omega) hcb hfb)
                rw [← hx] at HWG
                clear hx hcb hfb
                go_wp2_with fail
                refine HWG.out.mono ?_
                rintro e w6 ⟨rfl, hb6⟩
                have HB6 := Lib.hid (HB5.out.keep hb6)
                have HRE6 := Lib.hid (HRE.out w6 hb6)
                clear hb6
                go_wp2_with fail
                refine HRE6.out.mono ?_
                rintro e w7 ⟨rfl, hb7⟩
                have HB7 := Lib.hid (HB6.out.keep hb7)
                clear hb7
                go_wp2_with fail
                go_roundw
                case rel => exact ⟨k2 + 1, p4, ps3, x3, by omega, by go_num, rfl, HB7.out, HBAD3.out, HN4.out, by have := HC4.out; omega, by have := HL3.out; omega⟩
                case measure => go_light; simp [intOf]; omega
        · have e1 : decide ((k2 : Int) < (m : Int)) = false := decide_eq_false (by omega)
          have e2 : decide (k2 < m) = false := decide_eq_false hlt2
          have HBE := Lib.hid HB.out.bel
          clear hlt2
          go_wp2_with fail
          go_ret
          exact ⟨rfl, HBE.out⟩
end Go.Proofs.Ytmlgpnaikdpifaa
