/- Appends of any number of elements of any size, to a row of the call's own, as steps (as in the sixth stage's Brow). No conditions beyond those typed. -/
import Derived.Test.YtmlgpnaikdpifaaOwn
import Derived.Maps.AppendAt
namespace Go.Proofs.Ytmlgpnaikdpifaa
open Go.RowKit

theorem run_append_none (w : World) (base : Nat) (t ty e : TypeId) (i : TypeInfo) (size : Nat) (ht : Try.prog.underlying t = some (.slice e)) (hi : Try.prog.info? e = some i)
    (v : Value) (n : Nat) (xs : List Value) (hown : w.ownsRow base e size v n xs) (c : Nat) :
    (Builtin.append_ #[t, t] ty #[v, .slice none 0 c]).run Try.prog w = .ok v w := by
  rcases hown.2 with ⟨rfl, rfl⟩ | ⟨g, cap, cur, rfl, _, _, hnc, _⟩
  · simp [Builtin.append_, run_underlying ht, Go.sizeOf, typeInfo, hi, Builtin.lenOf, Builtin.firstCells]
  · simp [Builtin.append_, run_underlying ht, Go.sizeOf, typeInfo, hi, Builtin.lenOf, Builtin.firstCells, hnc, storeCells]
theorem run_append_any (T E : TypeId) (z : Value) (size bytes : Nat) (hT : Try.prog.underlying T = some (.slice E))
    (hE : (Try.prog.info? E).map (fun i => (i.zero, i.size, i.bytes)) = some (some z, size, bytes)) (hzc : z.cells.size = size) (hsz : 0 < size) (hby : bytes ≤ 100) (ty : TypeId)
    (w : World) (B : Nat) (v : Value) (n : Nat) (xs : List Value) (ao : Option Addr) (m c : Nat) (news : List Value)
    (hown : w.ownsRow B E size v n xs) (hB : B ≤ w.heap.size) (hn : n + m < 1099511627776) (hl : news.length = m * size) (hc : m = 0 ∨ ∃ ad, ao = some ad ∧ ∀ j u, news[j]? = some u → w.cell? (ad.add j) = some u) (h1 : ∀ u ∈ news, u.oneCell' = true) :
    ∃ v' w', (Builtin.append_ #[T, T] ty #[v, .slice ao m c]).run Try.prog w = .ok v' w' ∧ w'.ownsRow B E size v' (n + m) (xs ++ news) ∧ App B w w' v v' := by
  obtain ⟨i0, hi, hz0, hz1, hz2⟩ := info_parts hE
  cases ao with
  | none =>
    have hm0 : m = 0 := by
      rcases hc with h | ⟨ad, h, _⟩
      · exact h
      · cases h
    subst hm0
    have hy : news = [] := List.eq_nil_of_length_eq_zero (by omega)
    subst hy
    exact ⟨v, w, run_append_none w B T ty E i0 size hT hi v n xs hown c, by simpa using hown, Below.refl _ _, fun _ _ _ => rfl, .inl rfl⟩
  | some ad =>
    obtain ⟨v', w', hr, h2, h3, _, h5⟩ := run_append_own_at (P := Try.prog) w B T ty E i0 z size bytes hT hi hz0 hz1 hz2 hzc hsz v n xs hown ad m c news hl (by
      rcases hc with h0 | ⟨ad', e, hc⟩
      · subst h0
        have hy : news = [] := List.eq_nil_of_length_eq_zero (by omega)
        subst hy
        intro j u hj; simp at hj
      · obtain rfl := Option.some.inj e
        exact hc) h1 (by unfold maxLen; omega) (Nat.le_trans (Nat.mul_le_mul (Nat.le_of_lt hn) hby) (by decide)) hB
    exact ⟨v', w', hr, h2, (Below.refl B w).grown h3 hB fun k hk => (hown.lt k hk).1, fun k hk hne => h3.block k hk hne, h5.imp id fun e => ⟨_, e, Nat.le_refl _⟩⟩

/-- 'append(v, ys...)', v a row of the call's own. -/
theorem wpList_appC {ops : Array Oper} {rest : List Oper} {o : Oper} {a : Act} {Q : Exit → Act → World → Prop} (T E : TypeId) (z : Value) (size bytes : Nat) (hT : Try.prog.underlying T = some (.slice E))
    (hE : (Try.prog.info? E).map (fun i => (i.zero, i.size, i.bytes)) = some (some z, size, bytes)) (hzc : z.cells.size = size) (hsz : 0 < size) (hby : bytes ≤ 100) (hgd : o.guard = none) (s x : Operand)
    (ho : o.op = .call { callee := .builtin .append, args := #[s, x], argTypes := #[T, T] })
    (w : World) (B : Nat) (v : Value) (n : Nat) (xs : List Value) (ao : Option Addr) (m c : Nat) (news : List Value)
    (hown : w.ownsRow B E size v n xs) (hB : B ≤ w.heap.size) (hn : n + m < 1099511627776) (hl : news.length = m * size) (hc : m = 0 ∨ ∃ ad, ao = some ad ∧ ∀ j u, news[j]? = some u → w.cell? (ad.add j) = some u) (h1 : ∀ u ∈ news, u.oneCell' = true)
    (hs : a.eval s = v) (hx : a.eval x = .slice ao m c)
    (h : ∀ v' w', w'.ownsRow B E size v' (n + m) (xs ++ news) → App B w w' v v' → wpList Try.prog ops Q rest (a.put o.dst v') w') :
    wpList Try.prog ops Q (o :: rest) a w := by
  refine wpList_plain hgd fun K hK => ?_
  obtain ⟨v', w', hr, h2, h3⟩ := run_append_any T E z size bytes hT hE hzc hsz hby o.type w B v n xs ao m c news hown hB hn hl hc h1
  unfold Oper.wp execOp
  simp only [ho, resolve, invoke, builtin, Sem.run_bind, Sem.run_pure, Result.andThen_ok, List.map_toArray, List.map_cons, List.map_nil, hs, hx, hr]
  exact hK _ _ (h v' w' h2 h3)

/-- The same as one step of a region that draws. -/
theorem step_appC {ops : Array Oper} {o : Oper} {a : Act} {K : Act → World → Prop} {Q : Exit → Act → World → Prop} {EE : Prop} (T E : TypeId) (z : Value) (size bytes : Nat) (hT : Try.prog.underlying T = some (.slice E))
    (hE : (Try.prog.info? E).map (fun i => (i.zero, i.size, i.bytes)) = some (some z, size, bytes)) (hzc : z.cells.size = size) (hsz : 0 < size) (hby : bytes ≤ 100) (hgd : o.guard = none) (s x : Operand)
    (ho : o.op = .call { callee := .builtin .append, args := #[s, x], argTypes := #[T, T] })
    (w : World) (B : Nat) (v : Value) (n : Nat) (xs : List Value) (ao : Option Addr) (m c : Nat) (news : List Value)
    (hown : w.ownsRow B E size v n xs) (hB : B ≤ w.heap.size) (hn : n + m < 1099511627776) (hl : news.length = m * size) (hc : m = 0 ∨ ∃ ad, ao = some ad ∧ ∀ j u, news[j]? = some u → w.cell? (ad.add j) = some u) (h1 : ∀ u ∈ news, u.oneCell' = true)
    (hs : a.eval s = v) (hx : a.eval x = .slice ao m c)
    (h : ∀ v' w', w'.ownsRow B E size v' (n + m) (xs ++ news) → App B w w' v v' → K (a.put o.dst v') w') :
    if Region.wanted o (yielded ops a.tmps) = true then Oper.wp Try.prog o a w K Q else EE := by
  have hw : Region.wanted o (yielded ops a.tmps) = true := by simp [Region.wanted, hgd]
  rw [if_pos hw]
  obtain ⟨v', w', hr, h2, h3⟩ := run_append_any T E z size bytes hT hE hzc hsz hby o.type w B v n xs ao m c news hown hB hn hl hc h1
  unfold Oper.wp execOp
  simp only [ho, resolve, invoke, builtin, Sem.run_bind, Sem.run_pure, Result.andThen_ok, List.map_toArray, List.map_cons, List.map_nil, hs, hx, hr]
  exact h v' w' h2 h3
end Go.Proofs.Ytmlgpnaikdpifaa
