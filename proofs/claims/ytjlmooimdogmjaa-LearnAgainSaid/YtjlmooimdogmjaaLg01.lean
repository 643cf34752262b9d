/- Closed facts of this translation (the row of the type int, its slices), and the steps 'append(v, x)' of one int and 'make([]int, 0, n)' on rows of the call's own. Conditions: the row is the call's own, and short. · The contract of lits.Rename: every literal by the new name of its variable, or false where one has none. Conditions: the literals and the names are 64-bit ints above the least, the list is short. · Contracts of the document's own small helpers: skolemref.Abs, skolemref1.Is, before, Rename. Conditions: the literals are 64-bit ints above the least, the lists are short. -/
import Derived.Test.YtjlmooimdogmjaaLg00
import Derived.OwnWalk
import Derived.ArgAppend
import Derived.Laws.AppendOwnNone
set_option linter.unusedVariables false
set_option linter.unusedSimpArgs false
namespace Go.Proofs.Ytjlmooimdogmjaa
open Go.RowKit

theorem infoInt : (Try.prog.info? 3).map (fun i => (i.zero, i.size, i.bytes)) = some (some (.int .i64 0), 1, 8) := by kernel_rfl

/-- What an append of one int to the row v leaves: nothing below B has changed, no block but v's, and the new row lies in v's block or in a new one. -/
structure App (B : Nat) (wr w' : World) (v v' : Value) : Prop where
  below : Below B wr w'
  other : ∀ k, k < wr.heap.size → some k ≠ v.ownBlock → w'.heap[k]? = wr.heap[k]?
  blk : v'.ownBlock = v.ownBlock ∨ ∃ g, v'.ownBlock = some g ∧ wr.heap.size ≤ g
theorem App.own {B : Nat} {wr w' : World} {v v' : Value} (h : App B wr w' v v') {B' : Nat} {e : TypeId} {size : Nat} {u : Value} {n : Nat} {xs : List Value} (ho : wr.ownsRow B' e size u n xs) (hne : u.ownBlock = none ∨ u.ownBlock ≠ v.ownBlock) : w'.ownsRow B' e size u n xs := by
  obtain ⟨h1, h2⟩ := ho
  refine ⟨h1, ?_⟩
  rcases h2 with h2 | ⟨g, cap, cur, hv, hg, hh, r⟩
  · exact .inl h2
  · subst hv
    have hlt : g < wr.heap.size := by
      rcases Nat.lt_or_ge g wr.heap.size with h' | h'
      · exact h'
      · rw [Array.getElem?_eq_none h'] at hh; cases hh
    have hne' : some g ≠ v.ownBlock := by
      rcases hne with e | e
      · cases e
      · exact e
    exact .inr ⟨g, cap, cur, rfl, hg, (h.other g hlt hne').trans hh, r⟩
theorem App.ne {B : Nat} {wr w' : World} {v v' : Value} (h : App B wr w' v v') {k : Nat} (hk : k < wr.heap.size) (hne : v.ownBlock ≠ some k) : v'.ownBlock ≠ some k := by
  rcases h.blk with e | ⟨g, e, hg⟩
  · rw [e]; exact hne
  · rw [e]; intro e'; injection e' with e'; omega

/-- 'append(v, y)', v a row of the call's own (elements of one cell), y just laid in a new block. -/
theorem wpList_appV {ops : Array Oper} {rest : List Oper} {o : Oper} {a : Act} {Q : Exit → Act → World → Prop} (T E : TypeId) (z : Value) (bytes : Nat) (hT : Try.prog.underlying T = some (.slice E))
    (hE : (Try.prog.info? E).map (fun i => (i.zero, i.size, i.bytes)) = some (some z, 1, bytes)) (hzc : z.cells.size = 1) (hby : bytes ≤ 100) (hgd : o.guard = none) (s x : Operand)
    (ho : o.op = .call { callee := .builtin .append, args := #[s, x], argTypes := #[T, T] })
    (wr : World) (B : Nat) (v : Value) (n : Nat) (xs : List Value) (y : Value) (hy : y.oneCell' = true)
    (hown : wr.ownsRow B E 1 v n xs) (hB : B ≤ wr.heap.size) (hn : n < 1099511627776) (nb : Nat) (hnb : nb = wr.heap.size) (hs : a.eval s = v) (hx : a.eval x = .slice (some ⟨nb, 0, none⟩) 1 1)
    (h : ∀ v' w', w'.ownsRow B E 1 v' (n + 1) (xs ++ [y]) → App B wr w' v v' → wpList Try.prog ops Q rest (a.put o.dst v') w') :
    wpList Try.prog ops Q (o :: rest) a (wr.alloc (.cells #[y] E)) := by
  subst hnb
  obtain ⟨i0, hi, hz0, hz1, hz2⟩ := info_parts hE
  have hc : ∀ j u, [y][j]? = some u → (wr.alloc (.cells #[y] E)).cell? ((⟨wr.heap.size, 0, none⟩ : Addr).add j) = some u := by
    intro j u hj
    match j, hj with
    | 0, hj => simp at hj; subst hj; simp [Addr.add]
  have h1 : ∀ u ∈ [y], u.oneCell' = true := by
    intro u hu
    simp at hu
    subst hu
    exact hy
  have hoa := hown.alloc (.cells #[y] E)
  have hlt := hown.lt
  have hbb : ∀ k, k < 1099511627777 → k * bytes ≤ 140737488355328 := fun k hk => Nat.le_trans (Nat.mul_le_mul (Nat.le_of_lt hk) hby) (by decide)
  rcases hown.2 with ⟨e0, e1⟩ | ⟨g, cap, cur, e0, hbg, hg, hnc, hcm, hcs, htk⟩
  · subst e0; subst e1
    have hxs : xs = [] := by have := hown.1; simpa using this
    subst hxs
    refine wpList_append_grows _ hgd s x T ho E i0 z 1 bytes hT hi hz0 hz1 hz2 hzc (by decide) none 0 0 [] hs (fun _ => ⟨rfl, rfl⟩) rfl (fun b hb => by cases hb) _ 1 1 [y] hx rfl hc h1 (by omega) (by unfold maxLen; omega) (hbb _ (by omega)) ?_
    intro v' w' h2 h3
    refine h v' w' (by simpa using own_base h2 (by simp; omega)) ⟨((Below.refl B wr).alloc hB _).grown h3 (by simp; omega) (fun k hk => by cases hk), fun k hk _ => ?_, ?_⟩
    · rw [h3.block k (by simp; omega) (by simp), Below.heap_alloc _ _ _ hk]
    · rcases h2.2 with ⟨_, e'⟩ | ⟨g', cap', cur', e', hb', _⟩
      · simp at e'
      · exact .inr ⟨g', by rw [e']; rfl, by simp at hb'; omega⟩
  · subst e0
    have hgl : g < wr.heap.size := (hlt g rfl).2
    by_cases hfit : n + 1 ≤ cap
    · refine wpList_append_fits _ hgd s x T ho B E i0 1 hT hi hz1 g n cap _ hs hoa _ 1 1 [y] hx rfl hc h1 hfit ?_
      intro w' h2 h3
      refine h _ w' (by simpa using h2) ⟨((Below.refl B wr).alloc hB _).grown h3 (by simp; omega) (fun k hk => by cases hk; exact hbg), fun k hk hne => ?_, .inl rfl⟩
      rw [h3.block k (by simp; omega) hne, Below.heap_alloc _ _ _ hk]
    · refine wpList_append_grows _ hgd s x T ho E i0 z 1 bytes hT hi hz0 hz1 hz2 hzc (by decide) _ n cap xs hs (fun e => by cases e) hown.1 (fun b hb j u hj => by cases hb; exact hoa.cells (g := g) rfl j u hj) _ 1 1 [y] hx rfl hc h1 (by omega) (by unfold maxLen; omega) (hbb _ (by omega)) ?_
      intro v' w' h2 h3
      refine h v' w' (by simpa using own_base h2 (by simp; omega)) ⟨((Below.refl B wr).alloc hB _).grown h3 (by simp; omega) (fun k hk => by cases hk), fun k hk _ => ?_, ?_⟩
      · rw [h3.block k (by simp; omega) (by simp), Below.heap_alloc _ _ _ hk]
      · rcases h2.2 with ⟨_, e'⟩ | ⟨g', cap', cur', e', hb', _⟩
        · simp at e'
        · exact .inr ⟨g', by rw [e']; rfl, by simp at hb'; omega⟩

/-- 'append(v, y)', v a row of ints of the call's own, y just laid in a new block. -/
theorem wpList_app1 {ops : Array Oper} {rest : List Oper} {o : Oper} {a : Act} {Q : Exit → Act → World → Prop} (hgd : o.guard = none) (s x : Operand)
    (ho : o.op = .call { callee := .builtin .append, args := #[s, x], argTypes := #[22, 22] })
    (wr : World) (B : Nat) (v : Value) (n : Nat) (xs : List Int) (y : Int)
    (hown : wr.ownsRow B 3 1 v n (xs.map (Value.int .i64))) (hB : B ≤ wr.heap.size) (hn : n < 1099511627776) (hs : a.eval s = v) (hx : a.eval x = .slice (some ⟨wr.heap.size, 0, none⟩) 1 1)
    (h : ∀ v' w', w'.ownsRow B 3 1 v' (n + 1) ((xs ++ [y]).map (Value.int .i64)) → App B wr w' v v' → wpList Try.prog ops Q rest (a.put o.dst v') w') :
    wpList Try.prog ops Q (o :: rest) a (wr.alloc (.cells #[.int .i64 y] 3)) :=
  wpList_appV 22 3 (.int .i64 0) 8 Try.underlying22 infoInt rfl (by decide) hgd s x ho wr B v n _ (.int .i64 y) rfl hown hB hn _ rfl hs hx fun v' w' h1 h2 => h v' w' (by simpa using h1) h2

/-- A guarded operation whose guard holds is walked as the same operation without a guard. -/
theorem wpList_guard {P : Program} {ops : Array Oper} {rest : List Oper} {o : Oper} {a : Act} {w : World} {Q : Exit → Act → World → Prop} (hw : Region.wanted o (yielded ops a.tmps) = true)
    (h : wpList P ops Q ({ o with guard := none } :: rest) a w) : wpList P ops Q (o :: rest) a w := by
  unfold wpList at h ⊢
  rw [if_pos (show Region.wanted { o with guard := none } (yielded ops a.tmps) = true from rfl)] at h
  rw [if_pos hw]
  exact h

/-- 'append(v, ys...)', v a row of ints of the call's own, as one step of a region that draws. -/
theorem step_app {ops : Array Oper} {o : Oper} {a : Act} {K : Act → World → Prop} {Q : Exit → Act → World → Prop} {E : Prop} (hgd : o.guard = none) (s x : Operand)
    (ho : o.op = .call { callee := .builtin .append, args := #[s, x], argTypes := #[22, 22] })
    (w : World) (B : Nat) (v : Value) (n : Nat) (xs : List Int) (ad : Addr) (m c : Nat) (ys : List Int)
    (hown : w.ownsRow B 3 1 v n (xs.map (Value.int .i64))) (hB : B ≤ w.heap.size) (hn : n + m < 1099511627776) (hm : ys.length = m) (hc : ∀ j, j < m → w.cell? (ad.add j) = some (.int .i64 (ys.getD j 0)))
    (hs : a.eval s = v) (hx : a.eval x = .slice (some ad) m c)
    (h : ∀ v' w', w'.ownsRow B 3 1 v' (n + m) ((xs ++ ys).map (Value.int .i64)) → Below B w w' → K (a.put o.dst v') w') :
    if Region.wanted o (yielded ops a.tmps) = true then Oper.wp Try.prog o a w K Q else E := by
  have hw : Region.wanted o (yielded ops a.tmps) = true := by simp [Region.wanted, hgd]
  rw [if_pos hw]
  obtain ⟨i0, hi, hz0, hz1, hz2⟩ := info_parts infoInt
  refine wp_append_own w s x 22 ho B 3 i0 (.int .i64 0) 1 8 Try.underlying22 hi hz0 hz1 hz2 rfl (by decide) v n _ hs hown ad m c (ys.map (Value.int .i64)) hx (by simp [hm]) ?_ ?_ (by unfold maxLen; omega) (by omega) hB ?_
  · intro j u hj
    rw [List.getElem?_map] at hj
    have hjl : j < ys.length := by
      rcases Nat.lt_or_ge j ys.length with h' | h'
      · exact h'
      · rw [List.getElem?_eq_none h'] at hj; cases hj
    rw [hc j (by omega)]
    rw [List.getElem?_eq_getElem hjl] at hj
    simp at hj
    subst hj
    simp [List.getD, hjl]
  · intro u hu
    obtain ⟨y, _, rfl⟩ := List.mem_map.1 hu
    rfl
  · intro v' w' h1 h2 _
    exact h v' w' (by simpa using h1) ((Below.refl B w).grown h2 hB fun k hk => (hown.lt k hk).1)

/-- The same outside such a region. -/
theorem wpList_app {ops : Array Oper} {rest : List Oper} {o : Oper} {a : Act} {Q : Exit → Act → World → Prop} (hgd : o.guard = none) (s x : Operand)
    (ho : o.op = .call { callee := .builtin .append, args := #[s, x], argTypes := #[22, 22] })
    (w : World) (B : Nat) (v : Value) (n : Nat) (xs : List Int) (ao : Option Addr) (m c : Nat) (ys : List Int)
    (hown : w.ownsRow B 3 1 v n (xs.map (Value.int .i64))) (hB : B ≤ w.heap.size) (hn : n + m < 1099511627776) (hm : ys.length = m) (hc : m = 0 ∨ ∃ ad, ao = some ad ∧ ∀ j, j < m → w.cell? (ad.add j) = some (.int .i64 (ys.getD j 0))) (hnone : ao = none → c = 0)
    (hs : a.eval s = v) (hx : a.eval x = .slice ao m c)
    (h : ∀ v' w', w'.ownsRow B 3 1 v' (n + m) ((xs ++ ys).map (Value.int .i64)) → Below B w w' → wpList Try.prog ops Q rest (a.put o.dst v') w') :
    wpList Try.prog ops Q (o :: rest) a w := by
  obtain ⟨i0, hi, hz0, hz1, hz2⟩ := info_parts infoInt
  cases ao with
  | none =>
    obtain rfl := hnone rfl
    have hm0 : m = 0 := by
      rcases hc with h | ⟨ad, h, _⟩
      · exact h
      · cases h
    subst hm0
    have hy : ys = [] := List.eq_nil_of_length_eq_zero hm
    subst hy
    refine wpList_append_own_none hgd s x 22 ho B 3 i0 1 Try.underlying22 hi v n _ hs hown hx (h v w (by simpa using hown) (Below.refl _ _))
  | some ad =>
    refine wpList_append_own _ hgd s x 22 ho B 3 i0 (.int .i64 0) 1 8 Try.underlying22 hi hz0 hz1 hz2 rfl (by decide) v n _ hs hown ad m c (ys.map (Value.int .i64)) hx (by simp [hm]) ?_ ?_ (by unfold maxLen; omega) (by omega) hB ?_
    · intro j u hj
      rw [List.getElem?_map] at hj
      have hjl : j < ys.length := by
        rcases Nat.lt_or_ge j ys.length with h' | h'
        · exact h'
        · rw [List.getElem?_eq_none h'] at hj; cases hj
      rcases hc with h0 | ⟨ad', e, hc⟩
      · omega
      · have e := Option.some.inj e
        subst e
        rw [hc j (by omega)]
        rw [List.getElem?_eq_getElem hjl] at hj
        simp at hj
        subst hj
        simp [List.getD, hjl]
    · intro u hu
      obtain ⟨y, _, rfl⟩ := List.mem_map.1 hu
      rfl
    · intro v' w' h1 h2 _
      exact h v' w' (by simpa using h1) ((Below.refl B w).grown h2 hB fun k hk => (hown.lt k hk).1)

/-- A row cut is owned. -/
theorem own_less {w : World} {B : Nat} {e : TypeId} {g n m cap : Nat} {xs ys : List Value} (h : w.ownsRow B e 1 (.slice (some ⟨g, 0, none⟩) (n + m) cap) (n + m) (xs ++ ys)) (hx : xs.length = n) : w.ownsRow B e 1 (.slice (some ⟨g, 0, none⟩) n cap) n xs := by
  rcases h.2 with ⟨e0, _⟩ | ⟨g', cap', cur, e0, hb, hg, hn, hm, hs, ht⟩
  · cases e0
  · injection e0 with e1 _ e3
    injection e1 with e1
    injection e1 with e1
    subst e1; subst e3
    refine ⟨by omega, .inr ⟨g, cap, cur, rfl, hb, hg, by omega, hm, hs, ?_⟩⟩
    have h2 : (cur.toList.take ((n + m) * 1)).take n = xs := by rw [ht, ← hx, List.take_left]
    rw [List.take_take] at h2
    rw [← h2]
    congr 1
    omega

/-- 'append(v, ys...)', v a row of ints of the call's own: the old slice still owns what it did. -/
theorem wpList_appK {ops : Array Oper} {rest : List Oper} {o : Oper} {a : Act} {Q : Exit → Act → World → Prop} (hgd : o.guard = none) (s x : Operand)
    (ho : o.op = .call { callee := .builtin .append, args := #[s, x], argTypes := #[22, 22] })
    (w : World) (B : Nat) (v : Value) (n : Nat) (xs : List Int) (ao : Option Addr) (m c : Nat) (ys : List Int)
    (hown : w.ownsRow B 3 1 v n (xs.map (Value.int .i64))) (hB : B ≤ w.heap.size) (hn : n + m < 1099511627776) (hm : ys.length = m)
    (hc : (v = .slice none 0 0 ∧ m = 0 ∧ ao = none ∧ c = 0) ∨ ∃ g cap ad, v = .slice (some ⟨g, 0, none⟩) n cap ∧ ao = some ad ∧ ∀ j, j < m → w.cell? (ad.add j) = some (.int .i64 (ys.getD j 0)))
    (hs : a.eval s = v) (hx : a.eval x = .slice ao m c)
    (h : ∀ v' w', w'.ownsRow B 3 1 v' (n + m) ((xs ++ ys).map (Value.int .i64)) → w'.ownsRow B 3 1 v n (xs.map (Value.int .i64)) → Below B w w' → wpList Try.prog ops Q rest (a.put o.dst v') w') :
    wpList Try.prog ops Q (o :: rest) a w := by
  obtain ⟨i0, hi, hz0, hz1, hz2⟩ := info_parts infoInt
  rcases hc with ⟨hv, h0, rfl, rfl⟩ | ⟨g, cap, ad, hv, rfl, hc⟩
  · subst h0
    have hy : ys = [] := List.eq_nil_of_length_eq_zero hm
    subst hy
    exact wpList_append_own_none hgd s x 22 ho B 3 i0 1 Try.underlying22 hi v n _ hs hown hx (h v w (by simpa using hown) hown (Below.refl _ _))
  · subst hv
    have hlt := hown.lt g rfl
    have hcn : ∀ j u, (ys.map (Value.int .i64))[j]? = some u → w.cell? (ad.add j) = some u := by
      intro j u hj
      rw [List.getElem?_map] at hj
      have hjl : j < ys.length := by
        rcases Nat.lt_or_ge j ys.length with h' | h'
        · exact h'
        · rw [List.getElem?_eq_none h'] at hj; cases hj
      rw [hc j (by omega)]
      rw [List.getElem?_eq_getElem hjl] at hj
      simp at hj
      subst hj
      simp [List.getD, hjl]
    have h1 : ∀ u ∈ ys.map (Value.int .i64), u.oneCell' = true := by
      intro u hu
      obtain ⟨y, _, rfl⟩ := List.mem_map.1 hu
      rfl
    by_cases hfit : n + m ≤ cap
    · refine wpList_append_fits _ hgd s x 22 ho B 3 i0 1 Try.underlying22 hi hz1 g n cap _ hs hown ad m c (ys.map (Value.int .i64)) hx (by simp [hm]) hcn h1 hfit ?_
      intro w' h2 h3
      exact h _ w' (by simpa using h2) (own_less h2 (by simpa using hown.1)) ((Below.refl B w).grown h3 hB (fun k hk => by cases hk; exact hlt.1))
    · refine wpList_append_grows _ hgd s x 22 ho 3 i0 (.int .i64 0) 1 8 Try.underlying22 hi hz0 hz1 hz2 rfl (by decide) _ n cap (xs.map (Value.int .i64)) hs (fun e => by cases e) hown.1 (fun b hb j u hj => by cases hb; exact hown.cells (g := g) rfl j u hj) ad m c (ys.map (Value.int .i64)) hx (by simp [hm]) hcn h1 (by omega) (by unfold maxLen; omega) (by omega) ?_
      intro v' w' h2 h3
      exact h v' w' (by simpa using own_base h2 hB) (own_keep hown ((Below.refl _ w).grown h3 (Nat.le_refl _) (fun k hk => by cases hk))) ((Below.refl B w).grown h3 hB (fun k hk => by cases hk))

/-- 'make([]int, 0, n)'. -/
theorem wpList_make0 {ops : Array Oper} {rest : List Oper} {o : Oper} {a : Act} {Q : Exit → Act → World → Prop} (hgd : o.guard = none) (l c : Operand) (ho : o.op = Op.makeSlice 22 l c)
    (w : World) (n : Nat) (hl : a.eval l = .int .i64 0) (hc : a.eval c = .int .i64 (n : Int)) (hn : n < 1099511627776)
    (h : ∀ w', w'.ownsRow w.heap.size 3 1 (.slice (some ⟨w.heap.size, 0, none⟩) 0 n) 0 (([] : List Int).map (Value.int .i64)) → Below w.heap.size w w' → w.heap.size < w'.heap.size → wpList Try.prog ops Q rest (a.put o.dst (.slice (some ⟨w.heap.size, 0, none⟩) 0 n)) w') :
    wpList Try.prog ops Q (o :: rest) a w := by
  obtain ⟨i0, hi, hz0, hz1, hz2⟩ := info_parts infoInt
  refine wpList_make_own _ hgd l c 22 ho w.heap.size 3 i0 (.int .i64 0) 1 Try.underlying22 hi hz0 hz1 _ _ _ n hl hc rfl (by rw [hz2]; omega) (by unfold maxLen; omega) (Nat.le_refl _) ?_
  intro w' h1 h2
  have hlt := h1.lt w.heap.size rfl
  exact h w' (by simpa using h1) ((Below.refl _ w).grown h2 (Nat.le_refl _) fun k hk => by cases hk) hlt.2

/-- 'make([]int, n)'. -/
theorem wpList_makeN {ops : Array Oper} {rest : List Oper} {o : Oper} {a : Act} {Q : Exit → Act → World → Prop} (hgd : o.guard = none) (l c : Operand) (ho : o.op = Op.makeSlice 22 l c)
    (w : World) (n : Nat) (hl : a.eval l = .int .i64 (n : Int)) (hc : a.eval c = .int .i64 (n : Int)) (hn : n < 1099511627776)
    (h : ∀ w', w'.ownsRow w.heap.size 3 1 (.slice (some ⟨w.heap.size, 0, none⟩) n n) n ((List.replicate n (0 : Int)).map (Value.int .i64)) → Below w.heap.size w w' → w.heap.size < w'.heap.size → wpList Try.prog ops Q rest (a.put o.dst (.slice (some ⟨w.heap.size, 0, none⟩) n n)) w') :
    wpList Try.prog ops Q (o :: rest) a w := by
  obtain ⟨i0, hi, hz0, hz1, hz2⟩ := info_parts infoInt
  refine wpList_make_full _ hgd l c 22 ho w.heap.size 3 i0 (.int .i64 0) 1 Try.underlying22 hi hz0 hz1 _ _ _ _ n hl hc rfl rfl (by rw [hz2]; omega) (by unfold maxLen; omega) (Nat.le_refl _) ?_
  intro w' h1 h2
  have hlt := h1.lt w.heap.size rfl
  have hz : (madeCells (Value.int .i64 0).cells (n * 1)).toList = (List.replicate n (0 : Int)).map (Value.int .i64) := by
    apply List.ext_getElem (by simp [madeCells])
    intro i _ _
    simp [madeCells, Value.cells, Nat.mod_one]
  rw [hz] at h1
  exact h w' h1 ((Below.refl _ w).grown h2 (Nat.le_refl _) fun k hk => by cases hk) hlt.2

/-- '[]int{y}', just laid. -/
theorem own_lit1 (w : World) (B : Nat) (y : Int) (hB : B ≤ w.heap.size) : (w.alloc (.cells #[.int .i64 y] 3)).ownsRow B 3 1 (.slice (some ⟨w.heap.size, 0, none⟩) 1 1) 1 ([y].map (Value.int .i64)) :=
  ⟨by simp, .inr ⟨w.heap.size, 1, _, rfl, hB, heap_alloc_new w _, Nat.le_refl _, by unfold maxLen; omega, by simp, by simp⟩⟩

/-- A row of at least one cell is no nil slice. -/
theorem own_some {w : World} {B : Nat} {e : TypeId} {v : Value} {n : Nat} {xs : List Value} (h : w.ownsRow B e 1 v n xs) (hn : 0 < n) : ∃ g cap, v = .slice (some ⟨g, 0, none⟩) n cap ∧ B ≤ g ∧ g < w.heap.size ∧ n ≤ cap ∧ cap ≤ maxLen := by
  have hl := h.lt
  rcases h.2 with ⟨_, e1⟩ | ⟨g, cap, cur, hv, hb, hg, h1, h2, _⟩
  · omega
  · subst hv
    exact ⟨g, cap, rfl, hb, (hl g rfl).2, h1, h2⟩

/-- Its shape, nil or not. -/
theorem own_shape {w : World} {B : Nat} {e : TypeId} {v : Value} {n : Nat} {xs : List Value} (h : w.ownsRow B e 1 v n xs) : ∃ a cap, v = .slice a n cap ∧ n ≤ cap ∧ cap ≤ maxLen := by
  rcases h.2 with ⟨e0, e1⟩ | ⟨g, cap, cur, hv, hb, hg, h1, h2, _⟩
  · exact ⟨none, 0, by rw [e0, e1], by omega, by unfold maxLen; omega⟩
  · exact ⟨_, cap, hv, h1, h2⟩

/-- A row cut to its first k. -/
theorem own_cut {w : World} {B : Nat} {e : TypeId} {a : Option Addr} {n cap : Nat} {xs : List Int} (h : w.ownsRow B e 1 (.slice a n cap) n (xs.map (Value.int .i64))) (k : Nat) (hk : k ≤ n) : Row w (.slice a k cap) (xs.take k) := by
  have hl := own_len h
  obtain ⟨a', c', e', h1, h2, h3⟩ := own_row h
  injection e' with e1 e2 e3
  subst e1; subst e3
  refine ⟨a, cap, by simp [List.length_take]; omega, by simp; omega, h2, ?_⟩
  rcases h3 with h3 | ⟨b, off, e, hb, hc⟩
  · left; simp; omega
  · right
    refine ⟨b, off, e, hb, fun i hi => ?_⟩
    simp at hi
    rw [hc i (by omega)]
    simp [List.getD, hi, show i < xs.length by omega]
end Go.Proofs.Ytjlmooimdogmjaa

namespace Go.Proofs.Ytjlmooimdogmjaa
open Go.RowKit

/-- All ints of the list lie strictly inside the 64 bits. -/
def InW (xs : List Int) : Prop := ∀ x ∈ xs, -9223372036854775807 ≤ x ∧ x ≤ 9223372036854775807
theorem InW.get {xs : List Int} (h : InW xs) (k : Nat) : -9223372036854775807 ≤ xs.getD k 0 ∧ xs.getD k 0 ≤ 9223372036854775807 := by
  by_cases hk : k < xs.length
  · have := h _ (List.getElem_mem hk); simpa [List.getD, hk] using this
  · simp [List.getD, show xs.length ≤ k by omega]

/-- What Rename leaves. -/
def RenPost (w : World) (xs bs : List Int) (e : Ending) (w' : World) : Prop :=
  ∃ v', e = .returned (.tuple #[v', .bool (xs.all (renOk bs))]) ∧ Below w.heap.size w w' ∧
    (xs.all (renOk bs) = true → w'.ownsRow w.heap.size 3 1 v' xs.length ((xs.map (ren1 bs)).map (Value.int .i64))) ∧ (xs.all (renOk bs) = false → v' = .slice none 0 0)

theorem all_snoc (f : Int → Bool) (xs : List Int) (k : Nat) (h : k < xs.length) : (xs.take (k + 1)).all f = ((xs.take k).all f && f (xs.getD k 0)) := by
  rw [take_snoc xs k h, List.all_append]; simp
theorem all_false (f : Int → Bool) (xs : List Int) (k : Nat) (h : k < xs.length) (hf : f (xs.getD k 0) = false) : xs.all f = false := by
  rw [List.all_eq_false]
  exact ⟨xs[k], List.getElem_mem h, by simpa [List.getD, h] using hf⟩

end Go.Proofs.Ytjlmooimdogmjaa

namespace Go.Proofs.Ytjlmooimdogmjaa
open Go.RowKit

set_option maxHeartbeats 400000 in
theorem abs_any (l : Int) (w : World) (h1 : -9223372036854775807 ≤ l) (h2 : l ≤ 9223372036854775807) :
    Calls Try.prog 13 #[.int .i64 l] w fun e w' => e = .returned (.int .i64 (absI l)) ∧ w = w' := by
  unfold absI
  by_cases hlt : l < 0
  · go_enter Try.func13, Try.ntmps13
    go_wp2
    go_ret
    exact ⟨rfl, rfl⟩
  · go_enter Try.func13, Try.ntmps13
    go_wp2
    go_ret
    exact ⟨rfl, rfl⟩

set_option maxHeartbeats 400000 in
theorem refIs_any (l v : Int) (w : World) (h1 : -9223372036854775807 ≤ l) (h2 : l ≤ 9223372036854775807) (hv1 : -9223372036854775808 ≤ v) (hv2 : v ≤ 9223372036854775807) :
    Calls Try.prog 22 #[.int .i64 l, .int .i64 v] w fun e w' => e = .returned (.bool (isB v l)) ∧ w = w' := by
  have H := Lib.hid (show isB v l = decide (l ≠ 0 ∧ l ≤ v ∧ -v ≤ l) from by
    unfold isB absI; rw [Bool.eq_iff_iff]; simp; split <;> omega)
  generalize isB v l = r at *
  by_cases h0 : l = 0
  · subst h0
    go_enter Try.func22, Try.ntmps22
    go_wp2
    go_ret
    exact ⟨ret_bool (by rw [H.out]; simp), rfl⟩
  have hb0 : (l == 0) = false := by simp [h0]
  have hb0' : (l != 0) = true := by simp [h0]
  by_cases hle : l ≤ v
  · have hd : decide (l ≤ v) = true := by simp [hle]
    go_enter Try.func22, Try.ntmps22
    go_wp2
    go_ret
    exact ⟨ret_bool (by rw [H.out]; simp [h0, hle]), rfl⟩
  · have hd : decide (l ≤ v) = false := by simp; omega
    go_enter Try.func22, Try.ntmps22
    go_wp2
    go_ret
    exact ⟨ret_bool (by rw [H.out]; simp; omega), rfl⟩

end Go.Proofs.Ytjlmooimdogmjaa
