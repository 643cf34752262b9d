/- Words on slices whose elements are one cell each, whatever their type: what a slice reads as ('RowG'), rows of the call's own that are appended to or written in place ('CelG'); appends of elements of any size. Holds for every world; no conditions beyond those typed. · Footprints: of what was there only some blocks may have turned ('Chg'). No conditions beyond those typed. -/
import Derived.Test.YtjlmooimdogmjaaLg01
set_option linter.unusedVariables false
set_option linter.unusedSimpArgs false
namespace Go.Proofs.Ytjlmooimdogmjaa
open Go.RowKit

def RowGAt {α : Type} (mk : α → Value) (d : α) (w : World) (a : Option Addr) (c : Nat) (xs : List α) : Prop :=
  xs.length ≤ c ∧ c ≤ maxLen ∧ (xs.length = 0 ∨ ∃ b off, a = some ⟨b, off, none⟩ ∧ b < w.heap.size ∧ ∀ i, i < xs.length → w.cell? ⟨b, off + i, none⟩ = some (mk (xs.getD i d)))
/-- The value v is a slice that reads as xs. -/
def RowG {α : Type} (mk : α → Value) (d : α) (w : World) (v : Value) (xs : List α) : Prop := ∃ a c, v = .slice a xs.length c ∧ RowGAt mk d w a c xs
theorem RowGAt.keep {α : Type} {mk : α → Value} {d : α} {w w' : World} {a : Option Addr} {c : Nat} {xs : List α} (h : RowGAt mk d w a c xs) (hb : Below w.heap.size w w') : RowGAt mk d w' a c xs := by
  obtain ⟨h1, h2, h3⟩ := h
  refine ⟨h1, h2, ?_⟩
  rcases h3 with h3 | ⟨b, off, e, hlt, hc⟩
  · exact .inl h3
  · exact .inr ⟨b, off, e, Nat.lt_of_lt_of_le hlt hb.size, fun i hi => (hb.cell (p := ⟨b, off + i, none⟩) hlt).trans (hc i hi)⟩
theorem RowG.keep {α : Type} {mk : α → Value} {d : α} {w w' : World} {v : Value} {xs : List α} (h : RowG mk d w v xs) (hb : Below w.heap.size w w') : RowG mk d w' v xs := by
  obtain ⟨a, c, e, h⟩ := h
  exact ⟨a, c, e, h.keep hb⟩
theorem RowG.nil {α : Type} (mk : α → Value) (d : α) (w : World) : RowG mk d w (.slice none 0 0) [] := ⟨none, 0, rfl, by simp, by unfold maxLen; omega, .inl rfl⟩

/-- An owned row reads as what it owns. -/
theorem own_rowG {α : Type} {mk : α → Value} {d : α} {w : World} {B : Nat} {e : TypeId} {v : Value} {n : Nat} {xs : List α} (h : w.ownsRow B e 1 v n (xs.map mk)) : RowG mk d w v xs := by
  have hl : xs.length = n := by simpa using h.1
  rcases h.2 with ⟨e0, e1⟩ | ⟨g, cap, cur, rfl, hb, hg, hn, hm, hs, ht⟩
  · subst e0; subst e1
    have : xs = [] := List.eq_nil_of_length_eq_zero hl
    subst this
    exact RowG.nil mk d w
  · subst hl
    have hlt := h.lt g rfl
    refine ⟨_, _, rfl, hn, hm, .inr ⟨g, 0, rfl, hlt.2, fun i hi => ?_⟩⟩
    have := h.cells (g := g) rfl i (mk (xs.getD i d)) (by simp [List.getD, hi])
    rw [Nat.zero_add]
    rwa [show (⟨g, 0, none⟩ : Addr).add i = ⟨g, i, none⟩ by unfold Addr.add; split <;> simp_all] at this
/-- A slice cut. -/
theorem RowGAt.cut {α : Type} {mk : α → Value} {d : α} {w : World} {b off : Nat} {xs : List α} (i j : Nat) (hij : i ≤ j) (hj : j ≤ xs.length)
    (hc : ∀ k, k < xs.length → w.cell? ⟨b, off + k, none⟩ = some (mk (xs.getD k d))) : ∀ k, k < j - i → w.cell? ⟨b, off + i + k, none⟩ = some (mk (((xs.drop i).take (j - i)).getD k d)) := by
  intro k hk
  rw [Nat.add_assoc, hc (i + k) (by omega)]
  congr 2
  simp [List.getD, hk, show i + k < xs.length by omega]

/-- Cells of the call's own block q. -/
structure CelG {α : Type} (mk : α → Value) (d : α) (w : World) (q : Nat) (xs : List α) : Prop where
  sq : q < w.heap.size
  cells : ∀ i, i < xs.length → w.cell? ⟨q, i, none⟩ = some (mk (xs.getD i d))
  free : ∀ i, w.frozen? ⟨q, i, none⟩ = false
theorem getD_setG {α : Type} {d : α} (V : List α) (m : Nat) (x : α) (i : Nat) : (V.set m x).getD i d = if m = i ∧ i < V.length then x else V.getD i d := by
  simp only [List.getD, List.getElem?_set]
  by_cases h1 : m = i
  · subst h1
    by_cases h2 : m < V.length
    · simp [h2]
    · simp [h2]
  · simp [h1]
theorem CelG.keep {α : Type} {mk : α → Value} {d : α} {w w' : World} {q : Nat} {xs : List α} (h : CelG mk d w q xs) (hb : Below w.heap.size w w') : CelG mk d w' q xs where
  sq := Nat.lt_of_lt_of_le h.sq hb.size
  cells := fun i hi => (World.cell?_of_block (a := ⟨q, i, none⟩) (hb.block q h.sq)).trans (h.cells i hi)
  free := fun i => (World.frozen?_of_block (a := ⟨q, i, none⟩) (hb.block q h.sq)).trans (h.free i)
theorem CelG.set {α : Type} {mk : α → Value} {d : α} {w : World} {q : Nat} {xs : List α} (h : CelG mk d w q xs) (m : Nat) (x : α) : CelG mk d (w.setCell ⟨q, m, none⟩ (mk x)) q (xs.set m x) where
  sq := by simpa [World.setCell] using h.sq
  cells := fun i hi => by
    have hi' : i < xs.length := by simpa using hi
    rw [getD_setG]
    by_cases e : m = i
    · subst e
      rw [if_pos ⟨rfl, hi'⟩]
      exact World.cell?_setCell_same (w := w) (h := h.cells m hi') ..
    · rw [if_neg (fun hh => e hh.1), ← h.cells i hi']
      exact World.cell?_setCell_other (w := w) (h := fun hh => e (by injection hh)) ..
  free := fun i => (World.frozen?_setCell _ _ _ _).trans (h.free i)
theorem CelG.row {α : Type} {mk : α → Value} {d : α} {w : World} {q : Nat} {xs : List α} (h : CelG mk d w q xs) (c : Nat) (hl : xs.length ≤ c) (hc : c ≤ maxLen) : RowG mk d w (.slice (some ⟨q, 0, none⟩) xs.length c) xs :=
  ⟨_, _, rfl, hl, hc, .inr ⟨q, 0, rfl, h.sq, fun i hi => by rw [Nat.zero_add]; exact h.cells i hi⟩⟩
theorem CelG.of_own {α : Type} {mk : α → Value} {d : α} {w : World} {B q n c : Nat} {e : TypeId} {xs : List α} (hown : w.ownsRow B e 1 (.slice (some ⟨q, 0, none⟩) n c) n (xs.map mk)) : CelG mk d w q xs := by
  refine ⟨(hown.lt q rfl).2, fun i hi => ?_, fun i => ?_⟩
  · have := hown.cells (g := q) rfl i (mk (xs.getD i d)) (by simp [List.getD, hi])
    rwa [show (⟨q, 0, none⟩ : Addr).add i = ⟨q, i, none⟩ by unfold Addr.add; split <;> simp_all] at this
  · rcases hown.2 with ⟨e0, _⟩ | ⟨g, cap, cur, e0, _, hg, _⟩
    · cases e0
    · injection e0 with e0 _ _
      injection e0 with e0
      injection e0 with e0
      subst e0
      simp [World.frozen?, hg]

/-- 'make([]T, n)', T of one cell. -/
theorem wpList_makeG {α : Type} (mk : α → Value) (d : α) {ops : Array Oper} {rest : List Oper} {o : Oper} {a : Act} {Q : Exit → Act → World → Prop} (T E : TypeId) (bytes : Nat) (hT : Try.prog.underlying T = some (.slice E))
    (hE : (Try.prog.info? E).map (fun i => (i.zero, i.size, i.bytes)) = some (some (mk d), 1, bytes)) (hzc : (mk d).cells = #[mk d]) (hby : bytes ≤ 100)
    (hgd : o.guard = none) (l c : Operand) (ho : o.op = Op.makeSlice T l c)
    (w : World) (n : Nat) (hl : a.eval l = .int .i64 (n : Int)) (hc : a.eval c = .int .i64 (n : Int)) (hn : n < 1099511627776)
    (h : ∀ w', CelG mk d w' w.heap.size (List.replicate n d) → Below w.heap.size w w' → w.heap.size < w'.heap.size → wpList Try.prog ops Q rest (a.put o.dst (.slice (some ⟨w.heap.size, 0, none⟩) n n)) w') :
    wpList Try.prog ops Q (o :: rest) a w := by
  obtain ⟨i0, hi, hz0, hz1, hz2⟩ := info_parts hE
  refine wpList_make_full _ hgd l c T ho w.heap.size E i0 (mk d) 1 hT hi hz0 hz1 _ _ _ _ n hl hc rfl rfl (by rw [hz2]; exact Nat.le_trans (Nat.mul_le_mul hby (Nat.le_of_lt hn)) (by decide)) (by unfold maxLen; omega) (Nat.le_refl _) ?_
  intro w' h1 h2
  have hlt := h1.lt w.heap.size rfl
  have hz : (madeCells (mk d).cells (n * 1)).toList = (List.replicate n d).map mk := by
    rw [hzc]
    apply List.ext_getElem (by simp [madeCells])
    intro i _ _
    simp [madeCells, Nat.mod_one]
  rw [hz] at h1
  exact h w' (CelG.of_own h1) ((Below.refl _ w).grown h2 (Nat.le_refl _) fun k hk => by cases hk) hlt.2

/-- 'append(v, y)', v a row of the call's own (elements of 'size' cells), y just laid in a new block. -/
theorem wpList_appS {ops : Array Oper} {rest : List Oper} {o : Oper} {a : Act} {Q : Exit → Act → World → Prop} (T E : TypeId) (z : Value) (size bytes : Nat) (hT : Try.prog.underlying T = some (.slice E))
    (hE : (Try.prog.info? E).map (fun i => (i.zero, i.size, i.bytes)) = some (some z, size, bytes)) (hzc : z.cells.size = size) (hsz : 0 < size) (hby : bytes ≤ 100) (hgd : o.guard = none) (s x : Operand)
    (ho : o.op = .call { callee := .builtin .append, args := #[s, x], argTypes := #[T, T] })
    (wr : World) (B : Nat) (v : Value) (n : Nat) (xs ys : List Value) (hy : ∀ y ∈ ys, y.oneCell' = true) (hyl : ys.length = size)
    (hown : wr.ownsRow B E size v n xs) (hB : B ≤ wr.heap.size) (hn : n < 1099511627776) (nb : Nat) (hnb : nb = wr.heap.size) (hs : a.eval s = v) (hx : a.eval x = .slice (some ⟨nb, 0, none⟩) 1 1)
    (h : ∀ v' w', w'.ownsRow B E size v' (n + 1) (xs ++ ys) → App B wr w' v v' → wpList Try.prog ops Q rest (a.put o.dst v') w') :
    wpList Try.prog ops Q (o :: rest) a (wr.alloc (.cells ys.toArray E)) := by
  subst hnb
  obtain ⟨i0, hi, hz0, hz1, hz2⟩ := info_parts hE
  have hc : ∀ j u, ys[j]? = some u → (wr.alloc (.cells ys.toArray E)).cell? ((⟨wr.heap.size, 0, none⟩ : Addr).add j) = some u := by
    intro j u hj
    rw [show (⟨wr.heap.size, 0, none⟩ : Addr).add j = ⟨wr.heap.size, j, none⟩ by unfold Addr.add; split <;> simp_all]
    rw [cell_of_row _ wr.heap.size j ys.toArray E (0, 0) (heap_alloc_new wr _)]
    simpa using hj
  have hoa := hown.alloc (.cells ys.toArray E)
  have hlt := hown.lt
  have hl1 : ys.length = 1 * size := by omega
  have hbb : ∀ k, k < 1099511627777 → k * bytes ≤ 140737488355328 := fun k hk => Nat.le_trans (Nat.mul_le_mul (Nat.le_of_lt hk) hby) (by decide)
  rcases hown.2 with ⟨e0, e1⟩ | ⟨g, cap, cur, e0, hbg, hg, hnc, hcm, hcs, htk⟩
  · subst e0; subst e1
    have hxs : xs = [] := List.eq_nil_of_length_eq_zero (by have := hown.1; omega)
    subst hxs
    refine wpList_append_grows _ hgd s x T ho E i0 z size bytes hT hi hz0 hz1 hz2 hzc hsz none 0 0 [] hs (fun _ => ⟨rfl, rfl⟩) (by simp) (fun b hb => by cases hb) _ 1 1 ys hx hl1 hc hy (by omega) (by unfold maxLen; omega) (hbb _ (by omega)) ?_
    intro v' w' h2 h3
    refine h v' w' (by simpa using own_base h2 (by simp; omega)) ⟨((Below.refl B wr).alloc hB _).grown h3 (by simp; omega) (fun k hk => by cases hk), fun k hk _ => ?_, ?_⟩
    · rw [h3.block k (by simp; omega) (by simp), Below.heap_alloc _ _ _ hk]
    · rcases h2.2 with ⟨_, e'⟩ | ⟨g', cap', cur', e', hb', _⟩
      · simp at e'
      · exact .inr ⟨g', by rw [e']; rfl, by simp at hb'; omega⟩
  · subst e0
    have hgl : g < wr.heap.size := (hlt g rfl).2
    by_cases hfit : n + 1 ≤ cap
    · refine wpList_append_fits _ hgd s x T ho B E i0 size hT hi hz1 g n cap _ hs hoa _ 1 1 ys hx hl1 hc hy hfit ?_
      intro w' h2 h3
      refine h _ w' (by simpa using h2) ⟨((Below.refl B wr).alloc hB _).grown h3 (by simp; omega) (fun k hk => by cases hk; exact hbg), fun k hk hne => ?_, .inl rfl⟩
      rw [h3.block k (by simp; omega) hne, Below.heap_alloc _ _ _ hk]
    · refine wpList_append_grows _ hgd s x T ho E i0 z size bytes hT hi hz0 hz1 hz2 hzc hsz _ n cap xs hs (fun e => by cases e) hown.1 (fun b hb j u hj => by cases hb; exact hoa.cells (g := g) rfl j u hj) _ 1 1 ys hx hl1 hc hy (by omega) (by unfold maxLen; omega) (hbb _ (by omega)) ?_
      intro v' w' h2 h3
      refine h v' w' (by simpa using own_base h2 (by simp; omega)) ⟨((Below.refl B wr).alloc hB _).grown h3 (by simp; omega) (fun k hk => by cases hk), fun k hk _ => ?_, ?_⟩
      · rw [h3.block k (by simp; omega) (by simp), Below.heap_alloc _ _ _ hk]
      · rcases h2.2 with ⟨_, e'⟩ | ⟨g', cap', cur', e', hb', _⟩
        · simp at e'
        · exact .inr ⟨g', by rw [e']; rfl, by simp at hb'; omega⟩

/-- 'append(v, y)', elements of one cell. -/
theorem wpList_app1G {α : Type} (mk : α → Value) {ops : Array Oper} {rest : List Oper} {o : Oper} {a : Act} {Q : Exit → Act → World → Prop} (T E : TypeId) (z : Value) (bytes : Nat) (hT : Try.prog.underlying T = some (.slice E))
    (hE : (Try.prog.info? E).map (fun i => (i.zero, i.size, i.bytes)) = some (some z, 1, bytes)) (hzc : z.cells.size = 1) (hby : bytes ≤ 100) (hgd : o.guard = none) (s x : Operand)
    (ho : o.op = .call { callee := .builtin .append, args := #[s, x], argTypes := #[T, T] })
    (wr : World) (B : Nat) (v : Value) (n : Nat) (xs : List α) (y : α) (hy : (mk y).oneCell' = true)
    (hown : wr.ownsRow B E 1 v n (xs.map mk)) (hB : B ≤ wr.heap.size) (hn : n < 1099511627776) (hs : a.eval s = v) (hx : a.eval x = .slice (some ⟨wr.heap.size, 0, none⟩) 1 1)
    (h : ∀ v' w', w'.ownsRow B E 1 v' (n + 1) ((xs ++ [y]).map mk) → App B wr w' v v' → wpList Try.prog ops Q rest (a.put o.dst v') w') :
    wpList Try.prog ops Q (o :: rest) a (wr.alloc (.cells #[mk y] E)) :=
  wpList_appS T E z 1 bytes hT hE hzc (by decide) hby hgd s x ho wr B v n _ [mk y] (fun u hu => by simp at hu; subst hu; exact hy) rfl hown hB hn _ rfl hs hx fun v' w' h1 h2 => h v' w' (by simpa using h1) h2

/-- 'append(v, ys...)', v a row of the call's own, ys read off a slice. -/
theorem wpList_appM {α : Type} (mk : α → Value) (d : α) {ops : Array Oper} {rest : List Oper} {o : Oper} {a : Act} {Q : Exit → Act → World → Prop} (T E : TypeId) (z : Value) (bytes : Nat) (hT : Try.prog.underlying T = some (.slice E))
    (hE : (Try.prog.info? E).map (fun i => (i.zero, i.size, i.bytes)) = some (some z, 1, bytes)) (hzc : z.cells.size = 1) (hby : bytes ≤ 100) (hone : ∀ y, (mk y).oneCell' = true) (hgd : o.guard = none) (s x : Operand)
    (ho : o.op = .call { callee := .builtin .append, args := #[s, x], argTypes := #[T, T] })
    (w : World) (B : Nat) (v : Value) (n : Nat) (xs : List α) (ad : Addr) (m c : Nat) (ys : List α)
    (hown : w.ownsRow B E 1 v n (xs.map mk)) (hB : B ≤ w.heap.size) (hn : n + m < 1099511627776) (hm : ys.length = m) (hc : ∀ j, j < m → w.cell? (ad.add j) = some (mk (ys.getD j d)))
    (hs : a.eval s = v) (hx : a.eval x = .slice (some ad) m c)
    (h : ∀ v' w', w'.ownsRow B E 1 v' (n + m) ((xs ++ ys).map mk) → Below B w w' → wpList Try.prog ops Q rest (a.put o.dst v') w') :
    wpList Try.prog ops Q (o :: rest) a w := by
  obtain ⟨i0, hi, hz0, hz1, hz2⟩ := info_parts hE
  refine wpList_append_own _ hgd s x T ho B E i0 z 1 bytes hT hi hz0 hz1 hz2 hzc (by decide) v n _ hs hown ad m c (ys.map mk) hx (by simp [hm]) ?_ ?_ (by unfold maxLen; omega) (Nat.le_trans (Nat.mul_le_mul (Nat.le_of_lt hn) hby) (by decide)) hB ?_
  · intro j u hj
    rw [List.getElem?_map] at hj
    have hjl : j < ys.length := by
      rcases Nat.lt_or_ge j ys.length with h' | h'
      · exact h'
      · rw [List.getElem?_eq_none h'] at hj; cases hj
    rw [hc j (by omega)]
    rw [List.getElem?_eq_getElem hjl] at hj
    simp at hj
    subst hj
    simp [List.getD, hjl]
  · intro u hu
    obtain ⟨y, _, rfl⟩ := List.mem_map.1 hu
    exact hone y
  · intro v' w' h1 h2 _
    exact h v' w' (by simpa using h1) ((Below.refl B w).grown h2 hB fun k hk => (hown.lt k hk).1)

/-- A literal just laid is owned. -/
theorem own_lit (w : World) (B : Nat) (E : TypeId) (ys : List Value) (hB : B ≤ w.heap.size) (hl : ys.length ≤ 1000000) : (w.alloc (.cells ys.toArray E)).ownsRow B E 1 (.slice (some ⟨w.heap.size, 0, none⟩) ys.length ys.length) ys.length ys :=
  ⟨by simp, .inr ⟨w.heap.size, ys.length, _, rfl, hB, heap_alloc_new w _, Nat.le_refl _, by unfold maxLen; omega, by simp, by simp⟩⟩
end Go.Proofs.Ytjlmooimdogmjaa

namespace Go.Proofs.Ytjlmooimdogmjaa
open Go.RowKit

/-- Of what was there only the blocks of S may have turned. -/
structure Chg (S : List Nat) (w w' : World) : Prop where
  os : w'.os = w.os
  tape : w'.tape = w.tape
  output : w'.output = w.output
  size : w.heap.size ≤ w'.heap.size
  block : ∀ i, i < w.heap.size → i ∉ S → w'.heap[i]? = w.heap[i]?
/-- The blocks of T are old ones of S, or new. -/
def Fresh (w : World) (S T : List Nat) : Prop := ∀ i ∈ T, i ∈ S ∨ w.heap.size ≤ i
theorem Fresh.refl (w : World) (S : List Nat) : Fresh w S S := fun _ h => .inl h
theorem Fresh.trans {w w' : World} {S T U : List Nat} (h : Fresh w S T) (k : Fresh w' T U) (hs : w.heap.size ≤ w'.heap.size) : Fresh w S U := fun i hi =>
  (k i hi).elim (h i) (fun h' => .inr (Nat.le_trans hs h'))
theorem Chg.refl (S : List Nat) (w : World) : Chg S w w := ⟨rfl, rfl, rfl, Nat.le_refl _, fun _ _ _ => rfl⟩
theorem Chg.trans {S T : List Nat} {a b c : World} (h : Chg S a b) (k : Chg T b c) (hs : Fresh a S T) : Chg S a c :=
  ⟨k.os.trans h.os, k.tape.trans h.tape, k.output.trans h.output, Nat.le_trans h.size k.size, fun i hi hn => (k.block i (Nat.lt_of_lt_of_le hi h.size) (fun hm => (hs i hm).elim hn (fun h' => absurd hi (Nat.not_lt.2 h')))).trans (h.block i hi hn)⟩
theorem Chg.of_below {S : List Nat} {w w' : World} (h : Below w.heap.size w w') : Chg S w w' := ⟨h.os, h.tape, h.output, h.size, fun i hi _ => h.block i hi⟩
theorem Chg.below {S : List Nat} {B : Nat} {w0 w w' : World} (h : Chg S w w') (hb : Below B w0 w) (hB : B ≤ w.heap.size) (hS : ∀ i ∈ S, B ≤ i) : Below B w0 w' :=
  hb.trans ⟨h.os, h.tape, h.output, h.size, fun k hk => h.block k (Nat.lt_of_lt_of_le hk hB) (fun hm => absurd hk (Nat.not_lt.2 (hS k hm)))⟩
theorem Chg.setCell {S : List Nat} {w w' : World} (h : Chg S w w') {a : Addr} (ha : a.block ∈ S ∨ w.heap.size ≤ a.block) (u : Value) : Chg S w (w'.setCell a u) :=
  ⟨h.os, h.tape, h.output, by simpa [World.setCell] using h.size, fun i hi hn => (Below.heap_setCell _ _ _ _ (fun e => by
    subst e
    exact ha.elim hn (fun h' => absurd hi (Nat.not_lt.2 h')))).trans (h.block i hi hn)⟩
theorem Chg.alloc {S : List Nat} {w w' : World} (h : Chg S w w') (o : Obj) : Chg S w (w'.alloc o) :=
  ⟨h.os, h.tape, h.output, by have := h.size; simp; omega, fun i hi hn => (Below.heap_alloc _ _ _ (Nat.lt_of_lt_of_le hi h.size)).trans (h.block i hi hn)⟩
theorem Chg.app {S : List Nat} {w w' : World} {B : Nat} {v v' : Value} (h : App B w w' v v') (hv : ∀ k, v.ownBlock = some k → k ∈ S) : Chg S w w' :=
  ⟨h.below.os, h.below.tape, h.below.output, h.below.size, fun i hi hn => h.other i hi (fun e => hn (hv i e.symm))⟩
theorem Chg.grown {S : List Nat} {w w' : World} {r : Nat} (h : w.grownBy w' (some r)) (hr : r ∈ S) : Chg S w w' :=
  ⟨h.os, h.tape, h.output, h.size, fun i hi hn => h.block i hi (fun e => hn (by injection e with e; rw [e]; exact hr))⟩
theorem Chg.of_grown {S : List Nat} {w w' : World} {r : Option Nat} (h : w.grownBy w' r) (hr : ∀ k, r = some k → k ∈ S) : Chg S w w' :=
  ⟨h.os, h.tape, h.output, h.size, fun i hi hn => h.block i hi (fun e => hn (hr i e.symm))⟩
theorem Chg.drew {S : List Nat} {w w' : World} (h : Chg S w w') : Chg S w w'.drew := ⟨h.os, h.tape, h.output, h.size, h.block⟩
theorem Chg.cell {S : List Nat} {w w' : World} (h : Chg S w w') {b o : Nat} (hb : b < w.heap.size) (hn : b ∉ S) : w'.cell? ⟨b, o, none⟩ = w.cell? ⟨b, o, none⟩ := World.cell?_of_block (a := ⟨b, o, none⟩) (h.block b hb hn)

/-- The blocks of a row. -/
def rowB (v : Value) : List Nat := match v.ownBlock with | some q => [q] | none => []
theorem mem_rowB {v : Value} {i : Nat} : i ∈ rowB v ↔ v.ownBlock = some i := by
  unfold rowB
  cases h : v.ownBlock with
  | none => simp
  | some q => simp; exact eq_comm
theorem own_chg {S : List Nat} {w w' : World} {B : Nat} {e : TypeId} {size : Nat} {v : Value} {n : Nat} {xs : List Value} (h : w.ownsRow B e size v n xs) (hc : Chg S w w') (hn : ∀ k, v.ownBlock = some k → k ∉ S) : w'.ownsRow B e size v n xs := by
  obtain ⟨h1, h2⟩ := h
  refine ⟨h1, ?_⟩
  rcases h2 with h2 | ⟨g, cap, cur, hv, hg, hh, r⟩
  · exact .inl h2
  · have hlt : g < w.heap.size := by
      rcases Nat.lt_or_ge g w.heap.size with h' | h'
      · exact h'
      · rw [Array.getElem?_eq_none h'] at hh; cases hh
    subst hv
    exact .inr ⟨g, cap, cur, rfl, hg, (hc.block g hlt (hn g rfl)).trans hh, r⟩
theorem rowB_lt {w : World} {B : Nat} {e : TypeId} {size : Nat} {v : Value} {n : Nat} {xs : List Value} (h : w.ownsRow B e size v n xs) : ∀ i ∈ rowB v, i < w.heap.size := fun i hi =>
  (h.lt i (mem_rowB.1 hi)).2

/-- Four rows of the call's own, in blocks of their own. -/
structure R4 (W : World) (B : Nat) (u1 : Value) (l1 : List Int) (u2 : Value) (l2 : List Int) (u3 : Value) (l3 : List Int) (u4 : Value) (l4 : List Int) : Prop where
  o1 : W.ownsRow B 3 1 u1 l1.length (l1.map (Value.int .i64))
  o2 : W.ownsRow B 3 1 u2 l2.length (l2.map (Value.int .i64))
  o3 : W.ownsRow B 3 1 u3 l3.length (l3.map (Value.int .i64))
  o4 : W.ownsRow B 3 1 u4 l4.length (l4.map (Value.int .i64))
  s12 : ∀ k, u1.ownBlock = some k → u2.ownBlock ≠ some k
  s13 : ∀ k, u1.ownBlock = some k → u3.ownBlock ≠ some k
  s14 : ∀ k, u1.ownBlock = some k → u4.ownBlock ≠ some k
  s23 : ∀ k, u2.ownBlock = some k → u3.ownBlock ≠ some k
  s24 : ∀ k, u2.ownBlock = some k → u4.ownBlock ≠ some k
  s34 : ∀ k, u3.ownBlock = some k → u4.ownBlock ≠ some k
section
variable {W W' : World} {B : Nat} {u1 u2 u3 u4 : Value} {l1 l2 l3 l4 : List Int}
theorem R4.start (W : World) (B : Nat) : R4 W B (.slice none 0 0) [] (.slice none 0 0) [] (.slice none 0 0) [] (.slice none 0 0) [] :=
  ⟨World.ownsRow_nil _ _ _ _, World.ownsRow_nil _ _ _ _, World.ownsRow_nil _ _ _ _, World.ownsRow_nil _ _ _ _, fun k h => (by cases h), fun k h => (by cases h), fun k h => (by cases h), fun k h => (by cases h), fun k h => (by cases h), fun k h => (by cases h)⟩
theorem R4.rot (h : R4 W B u1 l1 u2 l2 u3 l3 u4 l4) : R4 W B u2 l2 u3 l3 u4 l4 u1 l1 :=
  ⟨h.o2, h.o3, h.o4, h.o1, h.s23, h.s24, fun k e e' => h.s12 k e' e, h.s34, fun k e e' => h.s13 k e' e, fun k e e' => h.s14 k e' e⟩
theorem R4.set (h : R4 W B u1 l1 u2 l2 u3 l3 u4 l4) (q o : Nat) (v : Value) (hq : q < B) : R4 (W.setCell ⟨q, o, none⟩ v) B u1 l1 u2 l2 u3 l3 u4 l4 :=
  { h with o1 := ownsRow_setCell_below h.o1 (a := ⟨q, o, none⟩) hq v, o2 := ownsRow_setCell_below h.o2 (a := ⟨q, o, none⟩) hq v, o3 := ownsRow_setCell_below h.o3 (a := ⟨q, o, none⟩) hq v, o4 := ownsRow_setCell_below h.o4 (a := ⟨q, o, none⟩) hq v }
theorem app_sep {v v' u : Value} {e : TypeId} {s n : Nat} {xs : List Value} (hap : App B W W' v v') (ho : W.ownsRow B e s u n xs) (hs : ∀ k, v.ownBlock = some k → u.ownBlock ≠ some k) : W'.ownsRow B e s u n xs ∧ ∀ k, v'.ownBlock = some k → u.ownBlock ≠ some k := by
  refine ⟨hap.own ho ?_, fun k hk hu => ?_⟩
  · cases hu : u.ownBlock with
    | none => exact .inl rfl
    | some g => exact .inr fun e => hs g e.symm hu
  · rcases hap.blk with e | ⟨g, e, hg⟩
    · exact hs k (e ▸ hk) hu
    · rw [e] at hk
      injection hk with hk
      have := (ho.lt k hu).2
      omega
theorem R4.app (h : R4 W B u1 l1 u2 l2 u3 l3 u4 l4) {u' : Value} {y : Int} (hown : W'.ownsRow B 3 1 u' (l1.length + 1) ((l1 ++ [y]).map (Value.int .i64))) (hap : App B W W' u1 u') : R4 W' B u' (l1 ++ [y]) u2 l2 u3 l3 u4 l4 := by
  obtain ⟨a2, b2⟩ := app_sep hap h.o2 h.s12
  obtain ⟨a3, b3⟩ := app_sep hap h.o3 h.s13
  obtain ⟨a4, b4⟩ := app_sep hap h.o4 h.s14
  exact ⟨by simpa using hown, a2, a3, a4, b2, b3, b4, h.s23, h.s24, h.s34⟩
end
end Go.Proofs.Ytjlmooimdogmjaa
