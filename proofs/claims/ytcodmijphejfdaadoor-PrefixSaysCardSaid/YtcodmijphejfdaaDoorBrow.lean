/- Blocks in memory while they are merged ('MgG'): each block's variables are a row of the call's own, no two of these in one block; blocks whose variables lie elsewhere ('BFl'); appends of any number of elements of any size, as steps. No conditions beyond those typed. -/
import Derived.Test.YtcodmijphejfdaaDoorMrgP
import Derived.Maps.AppendAt
namespace Go.Proofs.YtcodmijphejfdaaDoor
open Go.RowKit

theorem run_append_none (w : World) (base : Nat) (t ty e : TypeId) (i : TypeInfo) (size : Nat) (ht : Tryd.prog.underlying t = some (.slice e)) (hi : Tryd.prog.info? e = some i)
    (v : Value) (n : Nat) (xs : List Value) (hown : w.ownsRow base e size v n xs) (c : Nat) :
    (Builtin.append_ #[t, t] ty #[v, .slice none 0 c]).run Tryd.prog w = .ok v w := by
  rcases hown.2 with ⟨rfl, rfl⟩ | ⟨g, cap, cur, rfl, _, _, hnc, _⟩
  · simp [Builtin.append_, run_underlying ht, Go.sizeOf, typeInfo, hi, Builtin.lenOf, Builtin.firstCells]
  · simp [Builtin.append_, run_underlying ht, Go.sizeOf, typeInfo, hi, Builtin.lenOf, Builtin.firstCells, hnc, storeCells]
theorem run_append_any (T E : TypeId) (z : Value) (size bytes : Nat) (hT : Tryd.prog.underlying T = some (.slice E))
    (hE : (Tryd.prog.info? E).map (fun i => (i.zero, i.size, i.bytes)) = some (some z, size, bytes)) (hzc : z.cells.size = size) (hsz : 0 < size) (hby : bytes ≤ 100) (ty : TypeId)
    (w : World) (B : Nat) (v : Value) (n : Nat) (xs : List Value) (ao : Option Addr) (m c : Nat) (news : List Value)
    (hown : w.ownsRow B E size v n xs) (hB : B ≤ w.heap.size) (hn : n + m < 1099511627776) (hl : news.length = m * size) (hc : m = 0 ∨ ∃ ad, ao = some ad ∧ ∀ j u, news[j]? = some u → w.cell? (ad.add j) = some u) (h1 : ∀ u ∈ news, u.oneCell' = true) :
    ∃ v' w', (Builtin.append_ #[T, T] ty #[v, .slice ao m c]).run Tryd.prog w = .ok v' w' ∧ w'.ownsRow B E size v' (n + m) (xs ++ news) ∧ App B w w' v v' := by
  obtain ⟨i0, hi, hz0, hz1, hz2⟩ := info_parts hE
  cases ao with
  | none =>
    have hm0 : m = 0 := by
      rcases hc with h | ⟨ad, h, _⟩
      · exact h
      · cases h
    subst hm0
    have hy : news = [] := List.eq_nil_of_length_eq_zero (by omega)
    subst hy
    exact ⟨v, w, run_append_none w B T ty E i0 size hT hi v n xs hown c, by simpa using hown, Below.refl _ _, fun _ _ _ => rfl, .inl rfl⟩
  | some ad =>
    obtain ⟨v', w', hr, h2, h3, _, h5⟩ := run_append_own_at (P := Tryd.prog) w B T ty E i0 z size bytes hT hi hz0 hz1 hz2 hzc hsz v n xs hown ad m c news hl (by
      rcases hc with h0 | ⟨ad', e, hc⟩
      · subst h0
        have hy : news = [] := List.eq_nil_of_length_eq_zero (by omega)
        subst hy
        intro j u hj; simp at hj
      · obtain rfl := Option.some.inj e
        exact hc) h1 (by unfold maxLen; omega) (Nat.le_trans (Nat.mul_le_mul (Nat.le_of_lt hn) hby) (by decide)) hB
    exact ⟨v', w', hr, h2, (Below.refl B w).grown h3 hB fun k hk => (hown.lt k hk).1, fun k hk hne => h3.block k hk hne, h5.imp id fun e => ⟨_, e, Nat.le_refl _⟩⟩

/-- 'append(v, ys...)', v a row of the call's own. -/
theorem wpList_appC {ops : Array Oper} {rest : List Oper} {o : Oper} {a : Act} {Q : Exit → Act → World → Prop} (T E : TypeId) (z : Value) (size bytes : Nat) (hT : Tryd.prog.underlying T = some (.slice E))
    (hE : (Tryd.prog.info? E).map (fun i => (i.zero, i.size, i.bytes)) = some (some z, size, bytes)) (hzc : z.cells.size = size) (hsz : 0 < size) (hby : bytes ≤ 100) (hgd : o.guard = none) (s x : Operand)
    (ho : o.op = .call { callee := .builtin .append, args := #[s, x], argTypes := #[T, T] })
    (w : World) (B : Nat) (v : Value) (n : Nat) (xs : List Value) (ao : Option Addr) (m c : Nat) (news : List Value)
    (hown : w.ownsRow B E size v n xs) (hB : B ≤ w.heap.size) (hn : n + m < 1099511627776) (hl : news.length = m * size) (hc : m = 0 ∨ ∃ ad, ao = some ad ∧ ∀ j u, news[j]? = some u → w.cell? (ad.add j) = some u) (h1 : ∀ u ∈ news, u.oneCell' = true)
    (hs : a.eval s = v) (hx : a.eval x = .slice ao m c)
    (h : ∀ v' w', w'.ownsRow B E size v' (n + m) (xs ++ news) → App B w w' v v' → wpList Tryd.prog ops Q rest (a.put o.dst v') w') :
    wpList Tryd.prog ops Q (o :: rest) a w := by
  refine wpList_plain hgd fun K hK => ?_
  obtain ⟨v', w', hr, h2, h3⟩ := run_append_any T E z size bytes hT hE hzc hsz hby o.type w B v n xs ao m c news hown hB hn hl hc h1
  unfold Oper.wp execOp
  simp only [ho, resolve, invoke, builtin, Sem.run_bind, Sem.run_pure, Result.andThen_ok, List.map_toArray, List.map_cons, List.map_nil, hs, hx, hr]
  exact hK _ _ (h v' w' h2 h3)

/-- The same as one step of a region that draws. -/
theorem step_appC {ops : Array Oper} {o : Oper} {a : Act} {K : Act → World → Prop} {Q : Exit → Act → World → Prop} {EE : Prop} (T E : TypeId) (z : Value) (size bytes : Nat) (hT : Tryd.prog.underlying T = some (.slice E))
    (hE : (Tryd.prog.info? E).map (fun i => (i.zero, i.size, i.bytes)) = some (some z, size, bytes)) (hzc : z.cells.size = size) (hsz : 0 < size) (hby : bytes ≤ 100) (hgd : o.guard = none) (s x : Operand)
    (ho : o.op = .call { callee := .builtin .append, args := #[s, x], argTypes := #[T, T] })
    (w : World) (B : Nat) (v : Value) (n : Nat) (xs : List Value) (ao : Option Addr) (m c : Nat) (news : List Value)
    (hown : w.ownsRow B E size v n xs) (hB : B ≤ w.heap.size) (hn : n + m < 1099511627776) (hl : news.length = m * size) (hc : m = 0 ∨ ∃ ad, ao = some ad ∧ ∀ j u, news[j]? = some u → w.cell? (ad.add j) = some u) (h1 : ∀ u ∈ news, u.oneCell' = true)
    (hs : a.eval s = v) (hx : a.eval x = .slice ao m c)
    (h : ∀ v' w', w'.ownsRow B E size v' (n + m) (xs ++ news) → App B w w' v v' → K (a.put o.dst v') w') :
    if Region.wanted o (yielded ops a.tmps) = true then Oper.wp Tryd.prog o a w K Q else EE := by
  have hw : Region.wanted o (yielded ops a.tmps) = true := by simp [Region.wanted, hgd]
  rw [if_pos hw]
  obtain ⟨v', w', hr, h2, h3⟩ := run_append_any T E z size bytes hT hE hzc hsz hby o.type w B v n xs ao m c news hown hB hn hl hc h1
  unfold Oper.wp execOp
  simp only [ho, resolve, invoke, builtin, Sem.run_bind, Sem.run_pure, Result.andThen_ok, List.map_toArray, List.map_cons, List.map_nil, hs, hx, hr]
  exact h v' w' h2 h3

/-- What a slice of ints reads as, cell by cell, behind an address. -/
theorem row_cells {w : World} {a : Option Addr} {c : Nat} {xs : List Int} (h : RowAt w a c xs) : xs.length = 0 ∨ ∃ ad, a = some ad ∧ ∀ j u, (xs.map (Value.int .i64))[j]? = some u → w.cell? (ad.add j) = some u := by
  rcases h.2.2 with h | ⟨b, off, e, _, hc⟩
  · exact .inl h
  · refine .inr ⟨_, e, fun j u hj => ?_⟩
    rw [List.getElem?_map] at hj
    have hjl : j < xs.length := by
      rcases Nat.lt_or_ge j xs.length with h' | h'
      · exact h'
      · rw [List.getElem?_eq_none h'] at hj; cases hj
    have e2 : (⟨b, off, none⟩ : Addr).add j = ⟨b, off + j, none⟩ := by
      by_cases e0 : j = 0
      · subst e0; rfl
      · simp [Addr.add, e0]
    rw [e2, hc j hjl]
    rw [List.getElem?_eq_getElem hjl] at hj
    simp at hj
    subst hj
    simp [List.getD, hjl]
theorem ints_one (xs : List Int) : ∀ u ∈ xs.map (Value.int .i64), u.oneCell' = true := by
  intro u hu
  obtain ⟨y, _, rfl⟩ := List.mem_map.1 hu
  rfl

def nilV : Value := .slice none 0 0
/-- The cells of blocks whose variables are these slices. -/
def flB : List Blk → List Value → List Value
  | b :: bs, v :: vs => .bool b.1 :: v :: flB bs vs
  | _, _ => []
theorem flB_len : ∀ (bs : List Blk) (vs : List Value), vs.length = bs.length → (flB bs vs).length = bs.length * 2
  | [], [], _ => rfl
  | [], _ :: _, h => by simp at h
  | _ :: _, [], h => by simp at h
  | b :: bs, v :: vs, h => by
    have := flB_len bs vs (by simpa using h)
    simp [flB, this]; omega
theorem flB_snoc : ∀ (bs : List Blk) (vs : List Value) (b : Blk) (v : Value), vs.length = bs.length → flB (bs ++ [b]) (vs ++ [v]) = flB bs vs ++ [.bool b.1, v]
  | [], [], _, _, _ => rfl
  | [], _ :: _, _, _, h => by simp at h
  | _ :: _, [], _, _, h => by simp at h
  | c :: bs, u :: vs, b, v, h => by
    have := flB_snoc bs vs b v (by simpa using h)
    simp [flB, this]
theorem flB_at : ∀ (bs : List Blk) (vs : List Value) (j : Nat), vs.length = bs.length → j < bs.length → (flB bs vs)[j * 2]? = some (.bool (bs.getD j blk0).1) ∧ (flB bs vs)[j * 2 + 1]? = some (vs.getD j nilV)
  | [], _, j, _, hj => absurd hj (Nat.not_lt_zero _)
  | _ :: _, [], _, h, _ => by simp at h
  | b :: bs, v :: vs, 0, _, _ => ⟨rfl, rfl⟩
  | b :: bs, v :: vs, j + 1, h, hj => by
    have := flB_at bs vs j (by simpa using h) (by simpa using hj)
    rw [show (j + 1) * 2 = j * 2 + 1 + 1 by omega]
    simpa [flB, List.getD] using this

/-- Merged blocks in memory. -/
structure MgG (w : World) (B : Nat) (o : Value) (bs : List Blk) (vs : List Value) : Prop where
  len : vs.length = bs.length
  out : w.ownsRow B 58 2 o bs.length (flB bs vs)
  row : ∀ j, j < bs.length → w.ownsRow B 3 1 (vs.getD j nilV) (bs.getD j blk0).2.length ((bs.getD j blk0).2.map (Value.int .i64))
  sep : ∀ j, j < bs.length → ∀ g, (vs.getD j nilV).ownBlock = some g → o.ownBlock ≠ some g ∧ ∀ i, i < bs.length → i ≠ j → (vs.getD i nilV).ownBlock ≠ some g
theorem MgG.start (w : World) (B : Nat) : MgG w B (.slice none 0 0) [] [] :=
  ⟨rfl, ⟨rfl, .inl ⟨rfl, rfl⟩⟩, fun _ hj => absurd hj (Nat.not_lt_zero _), fun _ hj => absurd hj (Nat.not_lt_zero _)⟩
theorem MgG.keep {w w' : World} {B : Nat} {o : Value} {bs : List Blk} {vs : List Value} (h : MgG w B o bs vs) (hb : Below w.heap.size w w') : MgG w' B o bs vs :=
  ⟨h.len, own_keep h.out hb, fun j hj => own_keep (h.row j hj) hb, h.sep⟩
theorem MgG.mono {w : World} {B B' : Nat} {o : Value} {bs : List Blk} {vs : List Value} (h : MgG w B o bs vs) (hB : B' ≤ B) : MgG w B' o bs vs :=
  ⟨h.len, own_base h.out hB, fun j hj => own_base (h.row j hj) hB, h.sep⟩
theorem MgG.blG {w : World} {B : Nat} {o : Value} {bs : List Blk} {vs : List Value} (h : MgG w B o bs vs) : BlG w B o bs (flB bs vs) :=
  ⟨h.out, fun j hj => ⟨(flB_at bs vs j h.len hj).1, _, (flB_at bs vs j h.len hj).2, h.row j hj, fun g e => ⟨own_ltG (h.row j hj) e, (h.sep j hj g e).1⟩⟩⟩
theorem getD_snocV (vs : List Value) (v : Value) (i : Nat) (h : i ≤ vs.length) : (vs ++ [v]).getD i nilV = if i < vs.length then vs.getD i nilV else v := by
  by_cases h1 : i < vs.length
  · rw [if_pos h1]; simp [List.getD, List.getElem?_append_left h1]
  · have e : i = vs.length := by omega
    subst e
    simp [List.getD]
/-- One more block, its variables a row in a new block. -/
theorem MgG.push {w w' : World} {B : Nat} {o o' v : Value} {bs : List Blk} {vs : List Value} {e : Bool} {l : List Int} (h : MgG w B o bs vs) (hv : w.ownsRow B 3 1 v l.length (l.map (Value.int .i64)))
    (hvo : ∀ g, v.ownBlock = some g → o.ownBlock ≠ some g ∧ ∀ i, i < bs.length → (vs.getD i nilV).ownBlock ≠ some g)
    (ha : App B w w' o o') (ho : w'.ownsRow B 58 2 o' (bs.length + 1) (flB bs vs ++ [.bool e, v])) : MgG w' B o' (bs ++ [(e, l)]) (vs ++ [v]) := by
  have hl := h.len
  have hsw : ∀ {u : Value} {xs : List Value} {n : Nat}, w.ownsRow B 3 1 u n xs → (∀ g, u.ownBlock = some g → o.ownBlock ≠ some g) → w'.ownsRow B 3 1 u n xs := fun {u xs n} h1 h2 =>
    ha.own h1 (by
      cases e : u.ownBlock with
      | none => exact .inl rfl
      | some g => exact .inr fun e' => h2 g e e'.symm)
  refine ⟨by simp [hl], by rw [flB_snoc bs vs (e, l) v hl]; simpa using ho, fun j hj => ?_, fun j hj g e1 => ?_⟩
  · have hj' : j ≤ bs.length := by simp at hj; omega
    rw [getD_snoc, getD_snocV vs v j (by omega), hl]
    by_cases h1 : j < bs.length
    · rw [if_pos h1, if_pos h1]
      exact hsw (h.row j h1) fun g e => (h.sep j h1 g e).1
    · rw [if_neg h1, if_neg h1, if_pos (by omega)]
      exact hsw hv fun g e => (hvo g e).1
  · have hj' : j ≤ bs.length := by simp at hj; omega
    rw [getD_snocV vs v j (by omega), hl] at e1
    by_cases h1 : j < bs.length
    · rw [if_pos h1] at e1
      refine ⟨ha.ne (own_ltG (h.row j h1) e1) (h.sep j h1 g e1).1, fun i hi hne => ?_⟩
      have hi' : i ≤ bs.length := by simp at hi; omega
      rw [getD_snocV vs v i (by omega), hl]
      by_cases h2 : i < bs.length
      · rw [if_pos h2]; exact (h.sep j h1 g e1).2 i h2 hne
      · rw [if_neg h2]; exact fun e2 => (hvo g e2).2 j h1 e1
    · rw [if_neg h1] at e1
      refine ⟨ha.ne (own_ltG hv e1) (hvo g e1).1, fun i hi hne => ?_⟩
      have hi' : i ≤ bs.length := by simp at hi; omega
      rw [getD_snocV vs v i (by omega), hl]
      have h2 : i < bs.length := by omega
      rw [if_pos h2]
      exact (hvo g e1).2 i h2
/-- The last block's variables in a row that has grown, stored in its place. -/
theorem MgG.last {w w' : World} {B g cap : Nat} {u u' : Value} {bs : List Blk} {vs : List Value} {x : Blk} {l : List Int} (h : MgG w B (.slice (some ⟨g, 0, none⟩) (bs.length + 1) cap) (bs ++ [x]) (vs ++ [u]))
    (ha : App B w w' u u') (ho : w'.ownsRow B 3 1 u' (x.2 ++ l).length ((x.2 ++ l).map (Value.int .i64))) (e : Bool) (he : x.1 = e) :
    MgG (w'.setCell ⟨g, bs.length * 2 + 1, none⟩ u') B (.slice (some ⟨g, 0, none⟩) (bs.length + 1) cap) (bs ++ [(e, x.2 ++ l)]) (vs ++ [u']) := by
  have hl : vs.length = bs.length := by have := h.len; simpa using this
  have hsz : (bs ++ [x]).length = bs.length + 1 := by simp
  have hgw : g < w.heap.size := own_ltG h.out rfl
  have hu : w.ownsRow B 3 1 u x.2.length (x.2.map (Value.int .i64)) := by
    have := h.row bs.length (by simp)
    rwa [getD_snoc, getD_snocV vs u bs.length (by omega), if_neg (by omega), if_pos rfl, if_neg (by omega)] at this
  have hus : ∀ k, u.ownBlock = some k → k ≠ g ∧ ∀ i, i < bs.length → (vs.getD i nilV).ownBlock ≠ some k := fun k hk => by
    have := h.sep bs.length (by simp) k (by rw [getD_snocV vs u bs.length (by omega), if_neg (by omega)]; exact hk)
    refine ⟨fun e => this.1 (by rw [e]; rfl), fun i hi => ?_⟩
    have := this.2 i (by simp; omega) (by omega)
    rwa [getD_snocV vs u i (by omega), if_pos (by omega)] at this
  have hgu : (some g : Option Nat) ≠ u.ownBlock := fun e => (hus g e.symm).1 rfl
  have hu'g : u'.ownBlock ≠ some g := ha.ne hgw (fun e => hgu e.symm)
  have hout : w'.ownsRow B 58 2 (.slice (some ⟨g, 0, none⟩) (bs.length + 1) cap) (bs.length + 1) (flB (bs ++ [x]) (vs ++ [u])) := by
    have := h.out
    rw [hsz] at this
    exact ha.own this (.inr hgu)
  have hst := hout.stored (bs.length * 2 + 1) u'
  have hfl : (flB (bs ++ [x]) (vs ++ [u])).set (bs.length * 2 + 1) u' = flB (bs ++ [(e, x.2 ++ l)]) (vs ++ [u']) := by
    rw [flB_snoc bs vs x u hl, flB_snoc bs vs _ u' hl, List.set_append_right _ _ (by rw [flB_len bs vs hl]; omega), flB_len bs vs hl]
    rw [show bs.length * 2 + 1 - bs.length * 2 = 1 by omega, ← he]
    rfl
  rw [hfl] at hst
  have hoth : ∀ {v : Value} {k n : Nat} {xs : List Value}, w'.ownsRow B 3 k v n xs → v.ownBlock ≠ some g → (w'.setCell ⟨g, bs.length * 2 + 1, none⟩ u').ownsRow B 3 k v n xs := fun h1 h2 => own_other h1 hst.2 h2
  refine ⟨by simp [hl], by simpa using hst.1, fun j hj => ?_, fun j hj k hk => ?_⟩
  · have hj' : j ≤ bs.length := by simp at hj; omega
    rw [getD_snoc, getD_snocV vs u' j (by omega), hl]
    by_cases h1 : j < bs.length
    · rw [if_pos h1, if_pos h1]
      have r := h.row j (by simp; omega)
      have s := h.sep j (by simp; omega)
      rw [getD_snocV vs u j (by omega), hl, if_pos h1] at r s
      rw [getD_snoc, if_pos h1] at r
      refine hoth (ha.own r ?_) fun e => (s g e).1 rfl
      cases e2 : (vs.getD j nilV).ownBlock with
      | none => exact .inl rfl
      | some q =>
        refine .inr fun e3 => ?_
        have := (s q e2).2 bs.length (by simp) (by omega)
        rw [getD_snocV vs u bs.length (by omega), if_neg (by omega)] at this
        exact this e3.symm
    · rw [if_neg h1, if_neg h1, if_pos (by omega)]
      exact hoth ho hu'g
  · have hj' : j ≤ bs.length := by simp at hj; omega
    rw [getD_snocV vs u' j (by omega), hl] at hk
    by_cases h1 : j < bs.length
    · rw [if_pos h1] at hk
      have r := h.row j (by simp; omega)
      have s := h.sep j (by simp; omega) k
      rw [getD_snocV vs u j (by omega), hl, if_pos h1] at r s
      refine ⟨fun e => (s hk).1 e, fun i hi hne => ?_⟩
      have hi' : i ≤ bs.length := by simp at hi; omega
      rw [getD_snocV vs u' i (by omega), hl]
      by_cases h2 : i < bs.length
      · rw [if_pos h2]
        have := (s hk).2 i (by simp; omega) hne
        rwa [getD_snocV vs u i (by omega), hl, if_pos h2] at this
      · rw [if_neg h2]
        have := (s hk).2 bs.length (by simp) (by omega)
        rw [getD_snocV vs u bs.length (by omega), if_neg (by omega)] at this
        exact ha.ne (own_ltG r hk) this
    · rw [if_neg h1] at hk
      refine ⟨fun e => ?_, fun i hi hne => ?_⟩
      · have e' : some g = some k := e
        exact hu'g (by rw [hk, e'])
      · have hi' : i < bs.length := by simp at hi; omega
        rw [getD_snocV vs u' i (by omega), hl, if_pos hi']
        rcases ha.blk with e | ⟨q, e, hq⟩
        · exact (hus k (by rw [← e]; exact hk)).2 i hi'
        · intro e2
          have r := h.row i (by simp; omega)
          rw [getD_snocV vs u i (by omega), hl, if_pos hi'] at r
          have := own_ltG r e2
          rw [e] at hk
          have := Option.some.inj hk
          omega
/-- Merged blocks are handed back. -/
theorem MgG.brow {w : World} {B : Nat} {o : Value} {bs : List Blk} {vs : List Value} (h : MgG w B o bs vs) : BRow w B o bs := ⟨_, h.blG⟩

/-- Cells that read as blocks, their variables lying anywhere. -/
structure BFl (w : World) (fl : List Value) (bs : List Blk) : Prop where
  len : fl.length = bs.length * 2
  one : ∀ u ∈ fl, u.oneCell' = true
  at' : ∀ j, j < bs.length → fl[j * 2]? = some (.bool (bs.getD j blk0).1) ∧ ∃ v, fl[j * 2 + 1]? = some v ∧ Row w v (bs.getD j blk0).2
theorem BFl.nil (w : World) : BFl w [] [] := ⟨rfl, fun _ h => (by cases h), fun _ hj => absurd hj (Nat.not_lt_zero _)⟩
theorem BFl.keep {w w' : World} {fl : List Value} {bs : List Blk} (h : BFl w fl bs) (hb : Below w.heap.size w w') : BFl w' fl bs :=
  ⟨h.len, h.one, fun j hj => by
    obtain ⟨h0, v, h1, h2⟩ := h.at' j hj
    exact ⟨h0, v, h1, h2.keep hb⟩⟩
theorem getD_appB (xs ys : List Blk) (j : Nat) : (xs ++ ys).getD j blk0 = if j < xs.length then xs.getD j blk0 else ys.getD (j - xs.length) blk0 := by
  by_cases h : j < xs.length
  · rw [if_pos h]; simp [List.getD, List.getElem?_append_left h]
  · rw [if_neg h]; simp [List.getD, List.getElem?_append_right (Nat.le_of_not_lt h)]
theorem BFl.append {w : World} {fl gl : List Value} {bs cs : List Blk} (h : BFl w fl bs) (k : BFl w gl cs) : BFl w (fl ++ gl) (bs ++ cs) := by
  have hl := h.len
  refine ⟨by simp [h.len, k.len]; omega, fun u hu => ?_, fun j hj => ?_⟩
  · rcases List.mem_append.1 hu with hu | hu
    · exact h.one u hu
    · exact k.one u hu
  · rw [getD_appB]
    by_cases h1 : j < bs.length
    · rw [if_pos h1, List.getElem?_append_left (by omega), List.getElem?_append_left (by omega)]
      exact h.at' j h1
    · rw [if_neg h1, List.getElem?_append_right (by omega), List.getElem?_append_right (by omega), hl]
      have := k.at' (j - bs.length) (by simp at hj; omega)
      rwa [show (j - bs.length) * 2 = j * 2 - bs.length * 2 by omega, show j * 2 - bs.length * 2 + 1 = j * 2 + 1 - bs.length * 2 by omega] at this
theorem BRowsAt.fl {w : World} {a : Option Addr} {c : Nat} {bs : List Blk} (h : BRowsAt w a c bs) : ∃ fl, BFl w fl bs ∧ (bs.length = 0 ∨ ∃ ad, a = some ad ∧ ∀ j u, fl[j]? = some u → w.cell? (ad.add j) = some u) := by
  rcases h.2.2 with h0 | ⟨b, off, rfl, hb, hc⟩
  · have : bs = [] := List.eq_nil_of_length_eq_zero h0
    subst this
    exact ⟨[], BFl.nil w, .inl rfl⟩
  · have hat : ∀ j, (⟨b, off, none⟩ : Addr).add j = ⟨b, off + j, none⟩ := fun j => by
      by_cases e0 : j = 0
      · subst e0; rfl
      · simp [Addr.add, e0]
    have hex : ∀ j, j < bs.length * 2 → ∃ u, w.cell? ⟨b, off + j, none⟩ = some u ∧ u.oneCell' = true := fun j hj => by
      obtain ⟨h0, v, h1, h2⟩ := hc (j / 2) (by omega)
      rcases Nat.mod_two_eq_zero_or_one j with e | e
      · exact ⟨_, by rw [show off + j = off + j / 2 * 2 by omega]; exact h0, rfl⟩
      · obtain ⟨a', c', rfl, _⟩ := h2
        exact ⟨_, by rw [show off + j = off + j / 2 * 2 + 1 by omega]; exact h1, rfl⟩
    let f : Nat → Value := fun j => (w.cell? ⟨b, off + j, none⟩).getD nilV
    have hf : ∀ j u, w.cell? ⟨b, off + j, none⟩ = some u → f j = u := fun j u e => by simp [f, e]
    have hg : ∀ j, j < bs.length * 2 → ((List.range (bs.length * 2)).map f)[j]? = some (f j) := fun j hj => by simp [hj]
    refine ⟨(List.range (bs.length * 2)).map f, ⟨by simp, fun u hu => ?_, fun j hj => ?_⟩, .inr ⟨_, rfl, fun j u hj => ?_⟩⟩
    · obtain ⟨j, hj, rfl⟩ := List.mem_map.1 hu
      obtain ⟨u, h1, h2⟩ := hex j (by simpa using hj)
      rw [hf j u h1]; exact h2
    · obtain ⟨h0, v, h1, h2⟩ := hc j hj
      exact ⟨by rw [hg _ (by omega), hf _ _ (by rw [← h0])], v, by rw [hg _ (by omega), hf _ _ (by rw [← h1]; rfl)], h2⟩
    · have hjl : j < bs.length * 2 := by
        rcases Nat.lt_or_ge j (bs.length * 2) with h' | h'
        · exact h'
        · rw [List.getElem?_eq_none (by simpa using h')] at hj; cases hj
      rw [hg j hjl] at hj
      obtain ⟨u', h1, h2⟩ := hex j hjl
      rw [hat, h1, ← hf j u' h1]
      exact hj
/-- An owned row of such cells reads as the blocks. -/
theorem own_brows {w : World} {B n : Nat} {o : Value} {fl : List Value} {bs : List Blk} (ho : w.ownsRow B 58 2 o n fl) (hf : BFl w fl bs) : ∃ a cap, o = .slice a bs.length cap ∧ BRowsAt w a cap bs := by
  have hn : n = bs.length := by have h1 := ho.1; have h2 := hf.len; omega
  subst hn
  rcases ho.2 with ⟨e0, e1⟩ | ⟨g, cap, cl, e0, hb, hg, hn, hm, hs, ht⟩
  · subst e0
    have : bs = [] := List.eq_nil_of_length_eq_zero e1
    subst this
    exact ⟨none, 0, rfl, BRowsAt.nil w⟩
  · subst e0
    have hlt : g < w.heap.size := own_ltG ho rfl
    have hget : ∀ k v, fl[k]? = some v → k < bs.length * 2 → w.cell? ⟨g, k, none⟩ = some v := fun k v hk hlt2 => by
      rw [← ht, List.getElem?_take, if_pos hlt2] at hk
      have : cl[k]? = some v := by rw [← hk]; simp
      simp only [World.cell?, hg]
      simpa using this
    refine ⟨_, cap, rfl, hn, hm, .inr ⟨g, 0, rfl, hlt, fun i hi => ?_⟩⟩
    obtain ⟨h0, v, h1, h2⟩ := hf.at' i hi
    exact ⟨by rw [Nat.zero_add]; exact hget _ _ h0 (by omega), v, by rw [Nat.zero_add]; exact hget _ _ h1 (by omega), h2⟩
theorem own_shape2 {w : World} {B : Nat} {e : TypeId} {size : Nat} {v : Value} {n : Nat} {xs : List Value} (h : w.ownsRow B e size v n xs) : (v = .slice none 0 0 ∧ n = 0) ∨ ∃ g cap, v = .slice (some ⟨g, 0, none⟩) n cap ∧ n ≤ cap ∧ cap ≤ maxLen := by
  rcases h.2 with h | ⟨g, cap, cl, e0, _, _, hn, hm, _⟩
  · exact .inl h
  · exact .inr ⟨g, cap, e0, hn, hm⟩
theorem slice_of {w : World} {B : Nat} {e : TypeId} {size : Nat} {v : Value} {n : Nat} {xs : List Value} (h : w.ownsRow B e size v n xs) : ∃ a m cap, v = .slice a m cap := by
  rcases own_shape2 h with ⟨h, _⟩ | ⟨g, cap, h, _⟩
  · exact ⟨_, _, _, h⟩
  · exact ⟨_, _, _, h⟩
theorem own_cells {w : World} {B : Nat} {e : TypeId} {size : Nat} {g n cap : Nat} {xs : List Value} (h : w.ownsRow B e size (.slice (some ⟨g, 0, none⟩) n cap) n xs) (j : Nat) (u : Value) (hj : xs[j]? = some u) : w.cell? ⟨g, j, none⟩ = some u := by
  have := h.cells (g := g) rfl j u hj
  rwa [show (⟨g, 0, none⟩ : Addr).add j = ⟨g, j, none⟩ by unfold Addr.add; split <;> simp_all] at this
theorem own_free {w : World} {B : Nat} {e : TypeId} {size : Nat} {g n cap : Nat} {xs : List Value} (h : w.ownsRow B e size (.slice (some ⟨g, 0, none⟩) n cap) n xs) (j : Nat) : w.frozen? ⟨g, j, none⟩ = false := by
  rcases h.2 with ⟨e0, _⟩ | ⟨g', cap', cl, e0, _, hg, _⟩
  · cases e0
  · simp only [Value.slice.injEq, Option.some.injEq, Addr.mk.injEq, and_true, true_and] at e0
    obtain ⟨rfl, rfl⟩ := e0
    simp [World.frozen?, hg]
/-- One more block, its variables a row made since, the struct just laid. -/
theorem MgG.fresh {w w1 w3 : World} {B : Nat} {o o' u : Value} {bs : List Blk} {vs : List Value} {e : Bool} {l : List Int} (h : MgG w B o bs vs) (hB : B ≤ w.heap.size) (hb1 : Below w.heap.size w w1) (hu : w1.ownsRow w.heap.size 3 1 u l.length (l.map (Value.int .i64)))
    (ob : Obj) (ha : App B (w1.alloc ob) w3 o o') (ho : w3.ownsRow B 58 2 o' (bs.length + 1) (flB bs vs ++ [.bool e, u])) : MgG w3 B o' (bs ++ [(e, l)]) (vs ++ [u]) := by
  have hx : Below w1.heap.size w1 (w1.alloc ob) := (Below.refl _ _).alloc (Nat.le_refl _) _
  refine ((h.keep hb1).keep hx).push (own_base (own_keep hu hx) hB) (fun g hg => ?_) ha ho
  have h1 := (hu.lt g hg).1
  refine ⟨fun e1 => ?_, fun i hi e1 => ?_⟩
  · have := own_ltG h.out e1
    omega
  · have := own_ltG (h.row i hi) e1
    omega
/-- What the last merged block is, where there is one. -/
theorem MgG.lastOf {w : World} {B : Nat} {o : Value} {bs : List Blk} {vs : List Value} (h : MgG w B o bs vs) (h0 : 0 < bs.length) : ∃ init x vi u g cap, bs = init ++ [x] ∧ vs = vi ++ [u] ∧ o = .slice (some ⟨g, 0, none⟩) (init.length + 1) cap ∧ init.length + 1 ≤ cap ∧ cap ≤ maxLen ∧
    w.cell? ⟨g, init.length * 2, none⟩ = some (.bool x.1) ∧ w.cell? ⟨g, init.length * 2 + 1, none⟩ = some u ∧ w.ownsRow B 3 1 u x.2.length (x.2.map (Value.int .i64)) ∧ lastB bs = x ∧ u.ownBlock ≠ some g := by
  obtain ⟨init, x, rfl⟩ := snocB bs h0
  have hvl := h.len
  have hv0 : vs ≠ [] := by intro e; subst e; simp at hvl
  obtain ⟨vi, u, rfl⟩ : ∃ vi u, vs = vi ++ [u] := ⟨vs.dropLast, vs.getLast hv0, (List.dropLast_concat_getLast _).symm⟩
  have hl : vi.length = init.length := by simpa using hvl
  have hg : (vi ++ [u]).getD init.length nilV = u := by rw [getD_snocV vi u init.length (by omega), if_neg (by omega)]
  have hx : (init ++ [x]).getD init.length blk0 = x := by rw [getD_snoc, if_neg (by omega), if_pos rfl]
  have hr := h.row init.length (by simp)
  have hs := h.sep init.length (by simp)
  rw [hg] at hr hs
  rw [hx] at hr
  have hout := h.out
  rw [show (init ++ [x]).length = init.length + 1 by simp] at hout
  obtain ⟨c0, c1⟩ := flB_at (init ++ [x]) (vi ++ [u]) init.length hvl (by simp)
  rw [hx] at c0
  rw [hg] at c1
  rcases own_shape2 hout with ⟨_, h1⟩ | ⟨g, cap, rfl, h1, h2⟩
  · omega
  · exact ⟨init, x, vi, u, g, cap, rfl, rfl, rfl, h1, h2, own_cells hout _ _ c0, own_cells hout _ _ c1, hr, by simp [lastB, List.getD], fun e => (hs g e).1 rfl⟩
theorem own_shape3 {w : World} {B : Nat} {e : TypeId} {size : Nat} {v : Value} {n : Nat} {xs : List Value} (h : w.ownsRow B e size v n xs) : ∃ a cap, v = .slice a n cap := by
  rcases own_shape2 h with ⟨e1, e2⟩ | ⟨g, cap, e1, _⟩
  · exact ⟨none, 0, by rw [e1, e2]⟩
  · exact ⟨_, _, e1⟩
theorem cells_new (w : World) (ys : List Value) (E : TypeId) : ∀ j u, ys[j]? = some u → (w.alloc (.cells ys.toArray E)).cell? ((⟨w.heap.size, 0, none⟩ : Addr).add j) = some u := by
  intro j u hj
  rw [show (⟨w.heap.size, 0, none⟩ : Addr).add j = ⟨w.heap.size, j, none⟩ by unfold Addr.add; split <;> simp_all]
  rw [cell_of_row _ w.heap.size j ys.toArray E (0, 0) (heap_alloc_new w _)]
  simpa using hj
theorem two_one (e : Bool) {w : World} {B n : Nat} {u : Value} {xs : List Value} {t : TypeId} {size : Nat} (h : w.ownsRow B t size u n xs) : ∀ y ∈ [Value.bool e, u], y.oneCell' = true := by
  obtain ⟨a, m, c, rfl⟩ := slice_of h
  intro y hy
  simp at hy
  rcases hy with rfl | rfl <;> rfl
end Go.Proofs.YtcodmijphejfdaaDoor
