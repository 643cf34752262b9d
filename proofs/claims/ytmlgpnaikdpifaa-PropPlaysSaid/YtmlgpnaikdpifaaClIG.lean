/- Clauses while they are made: slices of ints in a slice, memory of the call's own; empty ones too. No conditions beyond those typed. -/
import Derived.Test.YtmlgpnaikdpifaaOwn
import Derived.Test.YtmlgpnaikdpifaaRead
import Derived.Test.YtmlgpnaikdpifaaCheckP
import Derived.Deep.Light
namespace Go.Proofs.Ytmlgpnaikdpifaa
open Go.RowKit

theorem infoInts : (Try.prog.info? 22).map (fun i => (i.zero, i.size, i.bytes)) = some (some (.slice none 0 0), 1, 24) := by kernel_rfl
/-- While clauses are made: those made already (vs), the one at hand (c). -/
structure ClG (w : World) (B : Nat) (o c : Value) (vs : List Value) (done : List (List Int)) (cur : List Int) : Prop where
  len : vs.length = done.length
  out : w.ownsRow B 22 1 o done.length vs
  each : ∀ j, j < done.length → ∃ v, vs[j]? = some v ∧ w.ownsRow B 3 1 v (done.getD j []).length ((done.getD j []).map (Value.int .i64)) ∧ ∀ g, v.ownBlock = some g → g < w.heap.size ∧ o.ownBlock ≠ some g ∧ c.ownBlock ≠ some g
  row : w.ownsRow B 3 1 c cur.length (cur.map (Value.int .i64))
  sep : ∀ g, o.ownBlock = some g → c.ownBlock ≠ some g
theorem ClG.start (w : World) (B : Nat) : ClG w B (.slice none 0 0) (.slice none 0 0) [] [] [] :=
  ⟨rfl, ⟨rfl, .inl ⟨rfl, rfl⟩⟩, fun j hj => absurd hj (Nat.not_lt_zero _), ⟨rfl, .inl ⟨rfl, rfl⟩⟩, fun g e => (by cases e)⟩
theorem own_ltG {w : World} {B : Nat} {e : TypeId} {size : Nat} {v : Value} {n : Nat} {xs : List Value} (h : w.ownsRow B e size v n xs) {g : Nat} (hg : v.ownBlock = some g) : g < w.heap.size := by
  rcases h.2 with ⟨rfl, _⟩ | ⟨g', cap, cur, rfl, _, hh, _⟩
  · cases hg
  · have : g' = g := by simpa [Value.ownBlock] using hg
    subst this
    rcases Nat.lt_or_ge g' w.heap.size with h' | h'
    · exact h'
    · rw [Array.getElem?_eq_none h'] at hh; cases hh
theorem ClG.push {w w' : World} {B : Nat} {o o' c : Value} {vs : List Value} {done : List (List Int)} {cur : List Int} (h : ClG w B o c vs done cur) (ha : App B w w' o o') (ho : w'.ownsRow B 22 1 o' (done.length + 1) (vs ++ [c])) :
    ClG w' B o' (.slice none 0 0) (vs ++ [c]) (done ++ [cur]) [] := by
  have hsw : ∀ {v : Value} {xs : List Value} {n : Nat}, w.ownsRow B 3 1 v n xs → (∀ g, v.ownBlock = some g → g < w.heap.size ∧ o.ownBlock ≠ some g) → w'.ownsRow B 3 1 v n xs ∧ ∀ g, v.ownBlock = some g → g < w'.heap.size ∧ o'.ownBlock ≠ some g ∧ (Value.slice none 0 0).ownBlock ≠ some g := fun {v xs n} h1 h2 =>
    ⟨ha.own h1 (by
      cases e : v.ownBlock with
      | none => exact .inl rfl
      | some g => exact .inr fun e' => (h2 g e).2 e'.symm), fun g e => ⟨Nat.lt_of_lt_of_le (h2 g e).1 ha.below.size, ha.ne (h2 g e).1 (h2 g e).2, fun e' => (by cases e')⟩⟩
  refine ⟨by simp [h.len], by simpa using ho, ?_, ⟨rfl, .inl ⟨rfl, rfl⟩⟩, fun g _ e => (by cases e)⟩
  intro j hj
  by_cases hlt : j < done.length
  · obtain ⟨v, h1, h2, h3⟩ := h.each j hlt
    have hg : (done ++ [cur]).getD j [] = done.getD j [] := by simp [List.getD, List.getElem?_append_left hlt]
    refine ⟨v, by rw [List.getElem?_append_left (by rw [h.len]; exact hlt)]; exact h1, ?_⟩
    rw [hg]
    exact hsw h2 (fun g e => ⟨(h3 g e).1, (h3 g e).2.1⟩)
  · have hj' : j = done.length := by simp at hj; omega
    subst hj'
    have hg : (done ++ [cur]).getD done.length [] = cur := by simp [List.getD]
    refine ⟨c, by rw [← h.len]; simp, ?_⟩
    rw [hg]
    exact hsw h.row (fun g e => ⟨own_ltG h.row e, fun e' => h.sep g e' e⟩)
theorem ClG.add {w w' : World} {B : Nat} {o c c' : Value} {vs : List Value} {done : List (List Int)} {cur : List Int} {y : Int} (h : ClG w B o c vs done cur) (ha : App B w w' c c') (ho : w'.ownsRow B 3 1 c' (cur.length + 1) ((cur ++ [y]).map (Value.int .i64))) :
    ClG w' B o c' vs done (cur ++ [y]) := by
  refine ⟨h.len, ha.own h.out ?_, ?_, by simpa using ho, ?_⟩
  · cases e : o.ownBlock with
    | none => exact .inl rfl
    | some g => exact .inr fun e' => h.sep g e e'.symm
  · intro j hj
    obtain ⟨v, h1, h2, h3⟩ := h.each j hj
    refine ⟨v, h1, ha.own h2 ?_, fun g e => ⟨Nat.lt_of_lt_of_le (h3 g e).1 ha.below.size, (h3 g e).2.1, ha.ne (h3 g e).1 (h3 g e).2.2⟩⟩
    cases e : v.ownBlock with
    | none => exact .inl rfl
    | some g => exact .inr fun e' => (h3 g e).2.2 e'.symm
  · intro g e
    exact ha.ne (own_ltG h.out e) (h.sep g e)
theorem ClG.keep {w w' : World} {B : Nat} {o c : Value} {vs : List Value} {done : List (List Int)} {cur : List Int} (h : ClG w B o c vs done cur) (hb : Below w.heap.size w w') : ClG w' B o c vs done cur := by
  refine ⟨h.len, own_keep h.out hb, fun j hj => ?_, own_keep h.row hb, h.sep⟩
  obtain ⟨v, h1, h2, h3⟩ := h.each j hj
  exact ⟨v, h1, own_keep h2 hb, fun g e => ⟨Nat.lt_of_lt_of_le (h3 g e).1 hb.size, (h3 g e).2⟩⟩
theorem ClG.rows {w : World} {B : Nat} {o c : Value} {vs : List Value} {done : List (List Int)} {cur : List Int} (h : ClG w B o c vs done cur) : ∃ a cap, o = .slice a done.length cap ∧ RowsAt w a cap done := by
  rcases h.out.2 with ⟨e0, e1⟩ | ⟨g, cap, cl, e0, hb, hg, hn, hm, hs, ht⟩
  · subst e0
    have : done = [] := List.eq_nil_of_length_eq_zero e1
    subst this
    exact ⟨none, 0, rfl, Nat.le_refl _, by unfold maxLen; omega, .inl rfl⟩
  · subst e0
    have hlt : g < w.heap.size := own_ltG h.out rfl
    refine ⟨_, cap, rfl, hn, hm, .inr ⟨g, 0, rfl, hlt, fun i hi => ?_⟩⟩
    obtain ⟨v, h1, h2, _⟩ := h.each i hi
    refine ⟨v, ?_, own_row h2⟩
    have hget : (cl.toList.take (done.length * 1))[i]? = some v := by rw [ht]; exact h1
    rw [List.getElem?_take, if_pos (by omega)] at hget
    have : cl[i]? = some v := by rw [← hget]; simp
    simp only [World.cell?, hg, Nat.zero_add]
    simpa using this
theorem ClG.set {w : World} {B : Nat} {o c : Value} {vs : List Value} {done : List (List Int)} {cur : List Int} (h : ClG w B o c vs done cur) (q off : Nat) (u : Value) (hq : q < B) : ClG (w.setCell ⟨q, off, none⟩ u) B o c vs done cur := by
  refine ⟨h.len, ownsRow_setCell_below h.out (by simpa using hq) _, fun j hj => ?_, ownsRow_setCell_below h.row (by simpa using hq) _, h.sep⟩
  obtain ⟨v, h1, h2, h3⟩ := h.each j hj
  exact ⟨v, h1, ownsRow_setCell_below h2 (by simpa using hq) _, fun g e => ⟨by simpa [World.setCell] using (h3 g e).1, (h3 g e).2⟩⟩
theorem ClG.mono {w : World} {B B' : Nat} {o c : Value} {vs : List Value} {done : List (List Int)} {cur : List Int} (h : ClG w B o c vs done cur) (hB : B' ≤ B) : ClG w B' o c vs done cur := by
  refine ⟨h.len, own_base h.out hB, fun j hj => ?_, own_base h.row hB, h.sep⟩
  obtain ⟨v, h1, h2, h3⟩ := h.each j hj
  exact ⟨v, h1, own_base h2 hB, h3⟩
/-- The value is a slice of clauses that reads as xss; all made since the block B. -/
def CRow (w : World) (B : Nat) (v : Value) (xss : List (List Int)) : Prop := ∃ c vs cur, ClG w B v c vs xss cur
theorem CRow.keep {w w' : World} {B : Nat} {v : Value} {xss : List (List Int)} (h : CRow w B v xss) (hb : Below w.heap.size w w') : CRow w' B v xss := by
  obtain ⟨c, vs, cur, h⟩ := h
  exact ⟨c, vs, cur, h.keep hb⟩
theorem CRow.set {w : World} {B : Nat} {v : Value} {xss : List (List Int)} (h : CRow w B v xss) (q off : Nat) (u : Value) (hq : q < B) : CRow (w.setCell ⟨q, off, none⟩ u) B v xss := by
  obtain ⟨c, vs, cur, h⟩ := h
  exact ⟨c, vs, cur, h.set q off u hq⟩
theorem CRow.mono {w : World} {B B' : Nat} {v : Value} {xss : List (List Int)} (h : CRow w B v xss) (hB : B' ≤ B) : CRow w B' v xss := by
  obtain ⟨c, vs, cur, h⟩ := h
  exact ⟨c, vs, cur, h.mono hB⟩
theorem CRow.nil (w : World) (B : Nat) : CRow w B (.slice none 0 0) [] := ⟨_, _, _, ClG.start w B⟩
theorem CRow.rows {w : World} {B : Nat} {v : Value} {xss : List (List Int)} (h : CRow w B v xss) : ∃ a cap, v = .slice a xss.length cap ∧ RowsAt w a cap xss := by
  obtain ⟨c, vs, cur, h⟩ := h
  exact h.rows
end Go.Proofs.Ytmlgpnaikdpifaa
