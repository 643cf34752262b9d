/- Closed facts of this translation (the row of the type int, its slices), and the steps 'append(v, x)' of one int and 'make([]int, 0, n)' on rows of the call's own. Conditions: the row is the call's own, and short. -/
import Derived.Test.YtijdangaffnckaaSmall
import Derived.OwnWalk
import Derived.ArgAppend
import Derived.Laws.AppendOwnNone
namespace Go.Proofs.Ytijdangaffnckaa
open Go.RowKit

theorem infoInt : (Try.prog.info? 3).map (fun i => (i.zero, i.size, i.bytes)) = some (some (.int .i64 0), 1, 8) := by kernel_rfl

/-- What an append of one int to the row v leaves: nothing below B has changed, no block but v's, and the new row lies in v's block or in a new one. -/
structure App (B : Nat) (wr w' : World) (v v' : Value) : Prop where
  below : Below B wr w'
  other : ∀ k, k < wr.heap.size → some k ≠ v.ownBlock → w'.heap[k]? = wr.heap[k]?
  blk : v'.ownBlock = v.ownBlock ∨ ∃ g, v'.ownBlock = some g ∧ wr.heap.size ≤ g
theorem App.own {B : Nat} {wr w' : World} {v v' : Value} (h : App B wr w' v v') {B' : Nat} {e : TypeId} {size : Nat} {u : Value} {n : Nat} {xs : List Value} (ho : wr.ownsRow B' e size u n xs) (hne : u.ownBlock = none ∨ u.ownBlock ≠ v.ownBlock) : w'.ownsRow B' e size u n xs := by
  obtain ⟨h1, h2⟩ := ho
  refine ⟨h1, ?_⟩
  rcases h2 with h2 | ⟨g, cap, cur, hv, hg, hh, r⟩
  · exact .inl h2
  · subst hv
    have hlt : g < wr.heap.size := by
      rcases Nat.lt_or_ge g wr.heap.size with h' | h'
      · exact h'
      · rw [Array.getElem?_eq_none h'] at hh; cases hh
    have hne' : some g ≠ v.ownBlock := by
      rcases hne with e | e
      · cases e
      · exact e
    exact .inr ⟨g, cap, cur, rfl, hg, (h.other g hlt hne').trans hh, r⟩
theorem App.ne {B : Nat} {wr w' : World} {v v' : Value} (h : App B wr w' v v') {k : Nat} (hk : k < wr.heap.size) (hne : v.ownBlock ≠ some k) : v'.ownBlock ≠ some k := by
  rcases h.blk with e | ⟨g, e, hg⟩
  · rw [e]; exact hne
  · rw [e]; intro e'; injection e' with e'; omega

/-- 'append(v, y)', v a row of the call's own (elements of one cell), y just laid in a new block. -/
theorem wpList_appV {ops : Array Oper} {rest : List Oper} {o : Oper} {a : Act} {Q : Exit → Act → World → Prop} (T E : TypeId) (z : Value) (bytes : Nat) (hT : Try.prog.underlying T = some (.slice E))
    (hE : (Try.prog.info? E).map (fun i => (i.zero, i.size, i.bytes)) = some (some z, 1, bytes)) (hzc : z.cells.size = 1) (hby : bytes ≤ 100) (hgd : o.guard = none) (s x : Operand)
    (ho : o.op = .call { callee := .builtin .append, args := #[s, x], argTypes := #[T, T] })
    (wr : World) (B : Nat) (v : Value) (n : Nat) (xs : List Value) (y : Value) (hy : y.oneCell' = true)
    (hown : wr.ownsRow B E 1 v n xs) (hB : B ≤ wr.heap.size) (hn : n < 1099511627776) (nb : Nat) (hnb : nb = wr.heap.size) (hs : a.eval s = v) (hx : a.eval x = .slice (some ⟨nb, 0, none⟩) 1 1)
    (h : ∀ v' w', w'.ownsRow B E 1 v' (n + 1) (xs ++ [y]) → App B wr w' v v' → wpList Try.prog ops Q rest (a.put o.dst v') w') :
    wpList Try.prog ops Q (o :: rest) a (wr.alloc (.cells #[y] E)) := by
  subst hnb
  obtain ⟨i0, hi, hz0, hz1, hz2⟩ := info_parts hE
  have hc : ∀ j u, [y][j]? = some u → (wr.alloc (.cells #[y] E)).cell? ((⟨wr.heap.size, 0, none⟩ : Addr).add j) = some u := by
    intro j u hj
    match j, hj with
    | 0, hj => simp at hj; subst hj; simp [Addr.add]
  have h1 : ∀ u ∈ [y], u.oneCell' = true := by
    intro u hu
    simp at hu
    subst hu
    exact hy
  have hoa := hown.alloc (.cells #[y] E)
  have hlt := hown.lt
  have hbb : ∀ k, k < 1099511627777 → k * bytes ≤ 140737488355328 := fun k hk => Nat.le_trans (Nat.mul_le_mul (Nat.le_of_lt hk) hby) (by decide)
  rcases hown.2 with ⟨e0, e1⟩ | ⟨g, cap, cur, e0, hbg, hg, hnc, hcm, hcs, htk⟩
  · subst e0; subst e1
    have hxs : xs = [] := by have := hown.1; simpa using this
    subst hxs
    refine wpList_append_grows _ hgd s x T ho E i0 z 1 bytes hT hi hz0 hz1 hz2 hzc (by decide) none 0 0 [] hs (fun _ => ⟨rfl, rfl⟩) rfl (fun b hb => by cases hb) _ 1 1 [y] hx rfl hc h1 (by omega) (by unfold maxLen; omega) (hbb _ (by omega)) ?_
    intro v' w' h2 h3
    refine h v' w' (by simpa using own_base h2 (by simp; omega)) ⟨((Below.refl B wr).alloc hB _).grown h3 (by simp; omega) (fun k hk => by cases hk), fun k hk _ => ?_, ?_⟩
    · rw [h3.block k (by simp; omega) (by simp), Below.heap_alloc _ _ _ hk]
    · rcases h2.2 with ⟨_, e'⟩ | ⟨g', cap', cur', e', hb', _⟩
      · simp at e'
      · exact .inr ⟨g', by rw [e']; rfl, by simp at hb'; omega⟩
  · subst e0
    have hgl : g < wr.heap.size := (hlt g rfl).2
    by_cases hfit : n + 1 ≤ cap
    · refine wpList_append_fits _ hgd s x T ho B E i0 1 hT hi hz1 g n cap _ hs hoa _ 1 1 [y] hx rfl hc h1 hfit ?_
      intro w' h2 h3
      refine h _ w' (by simpa using h2) ⟨((Below.refl B wr).alloc hB _).grown h3 (by simp; omega) (fun k hk => by cases hk; exact hbg), fun k hk hne => ?_, .inl rfl⟩
      rw [h3.block k (by simp; omega) hne, Below.heap_alloc _ _ _ hk]
    · refine wpList_append_grows _ hgd s x T ho E i0 z 1 bytes hT hi hz0 hz1 hz2 hzc (by decide) _ n cap xs hs (fun e => by cases e) hown.1 (fun b hb j u hj => by cases hb; exact hoa.cells (g := g) rfl j u hj) _ 1 1 [y] hx rfl hc h1 (by omega) (by unfold maxLen; omega) (hbb _ (by omega)) ?_
      intro v' w' h2 h3
      refine h v' w' (by simpa using own_base h2 (by simp; omega)) ⟨((Below.refl B wr).alloc hB _).grown h3 (by simp; omega) (fun k hk => by cases hk), fun k hk _ => ?_, ?_⟩
      · rw [h3.block k (by simp; omega) (by simp), Below.heap_alloc _ _ _ hk]
      · rcases h2.2 with ⟨_, e'⟩ | ⟨g', cap', cur', e', hb', _⟩
        · simp at e'
        · exact .inr ⟨g', by rw [e']; rfl, by simp at hb'; omega⟩

/-- A guarded operation whose guard holds is walked as the same operation without a guard. -/
theorem wpList_guard {P : Program} {ops : Array Oper} {rest : List Oper} {o : Oper} {a : Act} {w : World} {Q : Exit → Act → World → Prop} (hw : Region.wanted o (yielded ops a.tmps) = true)
    (h : wpList P ops Q ({ o with guard := none } :: rest) a w) : wpList P ops Q (o :: rest) a w := by
  unfold wpList at h ⊢
  rw [if_pos (show Region.wanted { o with guard := none } (yielded ops a.tmps) = true from rfl)] at h
  rw [if_pos hw]
  exact h

/-- A row cut is owned. -/
theorem own_less {w : World} {B : Nat} {e : TypeId} {g n m cap : Nat} {xs ys : List Value} (h : w.ownsRow B e 1 (.slice (some ⟨g, 0, none⟩) (n + m) cap) (n + m) (xs ++ ys)) (hx : xs.length = n) : w.ownsRow B e 1 (.slice (some ⟨g, 0, none⟩) n cap) n xs := by
  rcases h.2 with ⟨e0, _⟩ | ⟨g', cap', cur, e0, hb, hg, hn, hm, hs, ht⟩
  · cases e0
  · injection e0 with e1 _ e3
    injection e1 with e1
    injection e1 with e1
    subst e1; subst e3
    refine ⟨by omega, .inr ⟨g, cap, cur, rfl, hb, hg, by omega, hm, hs, ?_⟩⟩
    have h2 : (cur.toList.take ((n + m) * 1)).take n = xs := by rw [ht, ← hx, List.take_left]
    rw [List.take_take] at h2
    rw [← h2]
    congr 1
    omega

/-- '[]int{y}', just laid. -/
theorem own_lit1 (w : World) (B : Nat) (y : Int) (hB : B ≤ w.heap.size) : (w.alloc (.cells #[.int .i64 y] 3)).ownsRow B 3 1 (.slice (some ⟨w.heap.size, 0, none⟩) 1 1) 1 ([y].map (Value.int .i64)) :=
  ⟨by simp, .inr ⟨w.heap.size, 1, _, rfl, hB, heap_alloc_new w _, Nat.le_refl _, by unfold maxLen; omega, by simp, by simp⟩⟩

/-- A row of at least one cell is no nil slice. -/
theorem own_some {w : World} {B : Nat} {e : TypeId} {v : Value} {n : Nat} {xs : List Value} (h : w.ownsRow B e 1 v n xs) (hn : 0 < n) : ∃ g cap, v = .slice (some ⟨g, 0, none⟩) n cap ∧ B ≤ g ∧ g < w.heap.size ∧ n ≤ cap ∧ cap ≤ maxLen := by
  have hl := h.lt
  rcases h.2 with ⟨_, e1⟩ | ⟨g, cap, cur, hv, hb, hg, h1, h2, _⟩
  · omega
  · subst hv
    exact ⟨g, cap, rfl, hb, (hl g rfl).2, h1, h2⟩

/-- Its shape, nil or not. -/
theorem own_shape {w : World} {B : Nat} {e : TypeId} {v : Value} {n : Nat} {xs : List Value} (h : w.ownsRow B e 1 v n xs) : ∃ a cap, v = .slice a n cap ∧ n ≤ cap ∧ cap ≤ maxLen := by
  rcases h.2 with ⟨e0, e1⟩ | ⟨g, cap, cur, hv, hb, hg, h1, h2, _⟩
  · exact ⟨none, 0, by rw [e0, e1], by omega, by unfold maxLen; omega⟩
  · exact ⟨_, cap, hv, h1, h2⟩

/-- A row cut to its first k. -/
theorem own_cut {w : World} {B : Nat} {e : TypeId} {a : Option Addr} {n cap : Nat} {xs : List Int} (h : w.ownsRow B e 1 (.slice a n cap) n (xs.map (Value.int .i64))) (k : Nat) (hk : k ≤ n) : Row w (.slice a k cap) (xs.take k) := by
  have hl := own_len h
  obtain ⟨a', c', e', h1, h2, h3⟩ := own_row h
  injection e' with e1 e2 e3
  subst e1; subst e3
  refine ⟨a, cap, by simp [List.length_take]; omega, by simp; omega, h2, ?_⟩
  rcases h3 with h3 | ⟨b, off, e, hb, hc⟩
  · left; simp; omega
  · right
    refine ⟨b, off, e, hb, fun i hi => ?_⟩
    simp at hi
    rw [hc i (by omega)]
    simp [List.getD, hi, show i < xs.length by omega]
end Go.Proofs.Ytijdangaffnckaa
