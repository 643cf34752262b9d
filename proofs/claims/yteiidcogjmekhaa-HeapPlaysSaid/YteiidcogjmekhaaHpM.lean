/- A heap in memory: the program's (behind a pointer two rows, a number and the tree's row), the document's (two rows); what a store, an append leaves of each. No conditions beyond those typed. -/
import Derived.Test.YteiidcogjmekhaaHpT
import Derived.Test.YteiidcogjmekhaaChg
namespace Go.Proofs.Yteiidcogjmekhaa
open Go.RowKit

theorem set_at {W : World} {b i : Nat} {v u : Value} (h : W.cell? ⟨b, i, none⟩ = some v) : (W.setCell ⟨b, i, none⟩ u).cell? ⟨b, i, none⟩ = some u := World.cell?_setCell_same (w := W) (h := h) ..
theorem set_off {W : World} {b i b' j : Nat} {u : Value} (h : b ≠ b' ∨ i ≠ j) : (W.setCell ⟨b, i, none⟩ u).cell? ⟨b', j, none⟩ = W.cell? ⟨b', j, none⟩ :=
  World.cell?_setCell_other (w := W) (h := fun e => by injection e with e1 e2; exact h.elim (fun h => h e1) (fun h => h e2)) ..
theorem set_fr {W : World} {x : Addr} {u : Value} {y : Addr} (h : W.frozen? y = false) : (W.setCell x u).frozen? y = false := (World.frozen?_setCell _ _ _ _).trans h

/-- A store into an owned row. -/
theorem own_setAt {w : World} {B : Nat} {e : TypeId} {size g n cap : Nat} {xs : List Value} (h : w.ownsRow B e size (.slice (some ⟨g, 0, none⟩) n cap) n xs) (i : Nat) (u : Value) (_hi : i < xs.length) : (w.setCell ⟨g, i, none⟩ u).ownsRow B e size (.slice (some ⟨g, 0, none⟩) n cap) n (xs.set i u) := by
  obtain ⟨h1, h2⟩ := h
  refine ⟨by simpa using h1, ?_⟩
  rcases h2 with ⟨e0, _⟩ | ⟨g', cap', cur, hv, hg, hh, k1, k2, k3, k4⟩
  · cases e0
  · injection hv with e1 e2 e3
    injection e1 with e1
    injection e1 with e1 _ _
    subst e1; subst e3
    refine .inr ⟨g, cap, cur.setIfInBounds i u, rfl, hg, ?_, k1, k2, by simpa using k3, ?_⟩
    · have hlt : g < w.heap.size := by
        rcases Nat.lt_or_ge g w.heap.size with h' | h'
        · exact h'
        · rw [Array.getElem?_eq_none h'] at hh; cases hh
      have h' : w.heap[g] = .cells cur e (0, 0) := by simpa [Array.getElem?_eq_getElem hlt] using hh
      show (w.heap.modify g _)[g]? = _
      rw [Array.getElem?_eq_getElem (by simpa using hlt), Array.getElem_modify_self, h']
      rfl
    · rw [← k4, Array.toList_setIfInBounds, List.take_set]
theorem own_frozen {w : World} {B : Nat} {e : TypeId} {size g n cap : Nat} {xs : List Value} (h : w.ownsRow B e size (.slice (some ⟨g, 0, none⟩) n cap) n xs) (i : Nat) : w.frozen? ⟨g, i, none⟩ = false := by
  rcases h.2 with ⟨e0, _⟩ | ⟨g', cap', cur, e0, _, hg, _⟩
  · cases e0
  · injection e0 with e0 _ _
    injection e0 with e0
    injection e0 with e0
    subst e0
    simp [World.frozen?, hg]
theorem own_cell {w : World} {B : Nat} {e : TypeId} {size g n cap : Nat} {xs : List Value} (h : w.ownsRow B e size (.slice (some ⟨g, 0, none⟩) n cap) n xs) {i : Nat} {u : Value} (hu : xs[i]? = some u) : w.cell? ⟨g, i, none⟩ = some u := by
  have := h.cells (g := g) rfl i u hu
  rwa [show (⟨g, 0, none⟩ : Addr).add i = ⟨g, i, none⟩ by unfold Addr.add; split <;> simp_all] at this
theorem own_cap {w : World} {B : Nat} {e : TypeId} {size g n cap : Nat} {xs : List Value} (h : w.ownsRow B e size (.slice (some ⟨g, 0, none⟩) n cap) n xs) : n ≤ cap ∧ cap ≤ maxLen := by
  rcases h.2 with ⟨e0, _⟩ | ⟨g', cap', cur, e0, _, _, h1, h2, _⟩
  · cases e0
  · injection e0 with _ _ e3
    subst e3
    exact ⟨h1, h2⟩
theorem own_at {w : World} {B : Nat} {e : TypeId} {size n : Nat} {v : Value} {xs : List Value} (h : w.ownsRow B e size v n xs) (hn : 0 < n) : ∃ g cap, v = .slice (some ⟨g, 0, none⟩) n cap := by
  rcases h.2 with ⟨_, e1⟩ | ⟨g, cap, cur, hv, _⟩
  · omega
  · exact ⟨g, cap, hv⟩
theorem own_lt {w : World} {B : Nat} {e : TypeId} {size g n cap : Nat} {xs : List Value} (h : w.ownsRow B e size (.slice (some ⟨g, 0, none⟩) n cap) n xs) : B ≤ g ∧ g < w.heap.size := h.lt g rfl

/-- A node's two cells. -/
def ncells (x : Int × Int) : List Value := [.int .i64 x.1, .int .i64 x.2]
theorem nflat_len (xs : List (Int × Int)) : (xs.flatMap ncells).length = xs.length * 2 := by
  induction xs with
  | nil => rfl
  | cons x xs ih => rw [List.flatMap_cons, List.length_append, ih]; simp [ncells]; omega
theorem nflat_get : ∀ (ws : List (Int × Int)) (i j : Nat), i < ws.length → j < 2 → (ws.flatMap ncells)[i * 2 + j]? = (ncells (ws.getD i z2))[j]?
  | [], i, j, h, _ => by simp at h
  | x :: ws, 0, j, _, hj => by
    rw [List.flatMap_cons, List.getElem?_append_left (by simp [ncells]; omega)]
    simp
  | x :: ws, i + 1, j, h, hj => by
    have ih := nflat_get ws i j (by simpa using h) hj
    rw [List.flatMap_cons, List.getElem?_append_right (by simp [ncells]; omega)]
    rw [show (i + 1) * 2 + j - (ncells x).length = i * 2 + j by simp [ncells]; omega, ih]
    simp
theorem nflat_set : ∀ (ws : List (Int × Int)) (i : Nat) (x : Int × Int), i < ws.length → (((ws.flatMap ncells).set (i * 2) (.int .i64 x.1)).set (i * 2 + 1) (.int .i64 x.2)) = (ws.set i x).flatMap ncells
  | [], i, x, h => by simp at h
  | y :: ws, 0, x, _ => by simp [ncells]
  | y :: ws, i + 1, x, h => by
    have ih := nflat_set ws i x (by simpa using h)
    rw [List.set_cons_succ, List.flatMap_cons, List.flatMap_cons, ← ih]
    rw [List.set_append, if_neg (by simp [ncells]; omega), List.set_append, if_neg (by simp [ncells]; omega)]
    rw [show (i + 1) * 2 - (ncells y).length = i * 2 by simp [ncells]; omega, show (i + 1) * 2 + 1 - (ncells y).length = i * 2 + 1 by simp [ncells]; omega]

/-- The program's heap behind p. -/
structure HpAt (w : World) (p a b t ca cb ct : Nat) (ss : List Int) (ins : List Bool) (m : Int) (T : List Nd) : Prop where
  c0 : w.cell? ⟨p, 0, none⟩ = some (.slice (some ⟨a, 0, none⟩) ss.length ca)
  c1 : w.cell? ⟨p, 1, none⟩ = some (.slice (some ⟨b, 0, none⟩) ins.length cb)
  c2 : w.cell? ⟨p, 2, none⟩ = some (.int .i64 m)
  c3 : w.cell? ⟨p, 3, none⟩ = some (.slice (some ⟨t, 0, none⟩) T.length ct)
  fr : ∀ i, w.frozen? ⟨p, i, none⟩ = false
  ra : w.ownsRow 0 3 1 (.slice (some ⟨a, 0, none⟩) ss.length ca) ss.length (ss.map (Value.int .i64))
  rb : w.ownsRow 0 4 1 (.slice (some ⟨b, 0, none⟩) ins.length cb) ins.length (ins.map Value.bool)
  rt : w.ownsRow 0 49 2 (.slice (some ⟨t, 0, none⟩) T.length ct) T.length (T.flatMap ncells)
  pa : p ≠ a
  pb : p ≠ b
  pt : p ≠ t
  ab : a ≠ b
  at' : a ≠ t
  bt : b ≠ t
section
variable {w w' : World} {p a b t ca cb ct : Nat} {ss : List Int} {ins : List Bool} {m : Int} {T : List Nd}

theorem HpAt.lt (h : HpAt w p a b t ca cb ct ss ins m T) : ∀ i ∈ [p, a, b, t], i < w.heap.size := by
  intro i hi
  simp only [List.mem_cons, List.not_mem_nil, or_false] at hi
  rcases hi with rfl | rfl | rfl | rfl
  · exact World.block_lt_of_cell? w _ h.c0
  · exact (own_lt h.ra).2
  · exact (own_lt h.rb).2
  · exact (own_lt h.rt).2

theorem HpAt.keep {S : List Nat} (h : HpAt w p a b t ca cb ct ss ins m T) (hc : Chg S w w') (hd : ∀ i ∈ [p, a, b, t], i ∉ S) : HpAt w' p a b t ca cb ct ss ins m T := by
  have hp := h.lt p (by simp)
  have kp := fun o => hc.cell (o := o) hp (hd p (by simp))
  exact { h with
    c0 := (kp 0).trans h.c0
    c1 := (kp 1).trans h.c1
    c2 := (kp 2).trans h.c2
    c3 := (kp 3).trans h.c3
    fr := fun i => (World.frozen?_of_block (a := ⟨p, i, none⟩) (hc.block p hp (hd p (by simp)))).trans (h.fr i)
    ra := own_chg h.ra hc (fun k hk => hd k (by simp [Value.ownBlock] at hk; simp [hk]))
    rb := own_chg h.rb hc (fun k hk => hd k (by simp [Value.ownBlock] at hk; simp [hk]))
    rt := own_chg h.rt hc (fun k hk => hd k (by simp [Value.ownBlock] at hk; simp [hk])) }

theorem HpAt.below (h : HpAt w p a b t ca cb ct ss ins m T) (hb : Below w.heap.size w w') : HpAt w' p a b t ca cb ct ss ins m T := h.keep (Chg.of_below (S := []) hb) (by simp)

theorem HpAt.score (h : HpAt w p a b t ca cb ct ss ins m T) {i : Nat} (hi : i < ss.length) : w.cell? ⟨a, i, none⟩ = some (.int .i64 (ss.getD i 0)) := own_cell h.ra (by simp [List.getD, hi])

theorem HpAt.isin (h : HpAt w p a b t ca cb ct ss ins m T) {i : Nat} (hi : i < ins.length) : w.cell? ⟨b, i, none⟩ = some (.bool (ins.getD i false)) := own_cell h.rb (by simp [List.getD, hi])

theorem HpAt.node (h : HpAt w p a b t ca cb ct ss ins m T) {i : Nat} (hi : i < T.length) : w.cell? ⟨t, i * 2, none⟩ = some (.int .i64 (T.getD i z2).1) ∧ w.cell? ⟨t, i * 2 + 1, none⟩ = some (.int .i64 (T.getD i z2).2) :=
  ⟨own_cell h.rt (by have := nflat_get T i 0 hi (by decide); simpa [ncells] using this), own_cell h.rt (by have := nflat_get T i 1 hi (by decide); simpa [ncells] using this)⟩

theorem HpAt.setMany (h : HpAt w p a b t ca cb ct ss ins m T) (m' : Int) : HpAt (w.setCell ⟨p, 2, none⟩ (.int .i64 m')) p a b t ca cb ct ss ins m' T :=
  { h with
    c0 := (set_off (.inr (by decide))).trans h.c0
    c1 := (set_off (.inr (by decide))).trans h.c1
    c2 := set_at h.c2
    c3 := (set_off (.inr (by decide))).trans h.c3
    fr := fun i => set_fr (h.fr i)
    ra := ownsRow_setCell_other h.ra (by simp [Value.ownBlock]; exact fun e => h.pa e.symm) _
    rb := ownsRow_setCell_other h.rb (by simp [Value.ownBlock]; exact fun e => h.pb e.symm) _
    rt := ownsRow_setCell_other h.rt (by simp [Value.ownBlock]; exact fun e => h.pt e.symm) _ }

theorem HpAt.setScore (h : HpAt w p a b t ca cb ct ss ins m T) (i : Nat) (x : Int) (hi : i < ss.length) : HpAt (w.setCell ⟨a, i, none⟩ (.int .i64 x)) p a b t ca cb ct (ss.set i x) ins m T :=
  { h with
    c0 := by rw [List.length_set]; exact (set_off (.inl (fun e => h.pa e.symm))).trans h.c0
    c1 := (set_off (.inl (fun e => h.pa e.symm))).trans h.c1
    c2 := (set_off (.inl (fun e => h.pa e.symm))).trans h.c2
    c3 := (set_off (.inl (fun e => h.pa e.symm))).trans h.c3
    fr := fun i => set_fr (h.fr i)
    ra := by
      have := own_setAt h.ra i (.int .i64 x) (by simpa using hi)
      rw [List.length_set, List.map_set]
      exact this
    rb := ownsRow_setCell_other h.rb (by simp [Value.ownBlock]; exact fun e => h.ab e.symm) _
    rt := ownsRow_setCell_other h.rt (by simp [Value.ownBlock]; exact fun e => h.at' e.symm) _ }

theorem HpAt.setIn (h : HpAt w p a b t ca cb ct ss ins m T) (i : Nat) (x : Bool) (hi : i < ins.length) : HpAt (w.setCell ⟨b, i, none⟩ (.bool x)) p a b t ca cb ct ss (ins.set i x) m T :=
  { h with
    c0 := (set_off (.inl (fun e => h.pb e.symm))).trans h.c0
    c1 := by rw [List.length_set]; exact (set_off (.inl (fun e => h.pb e.symm))).trans h.c1
    c2 := (set_off (.inl (fun e => h.pb e.symm))).trans h.c2
    c3 := (set_off (.inl (fun e => h.pb e.symm))).trans h.c3
    fr := fun i => set_fr (h.fr i)
    rb := by
      have := own_setAt h.rb i (.bool x) (by simpa using hi)
      rw [List.length_set, List.map_set]
      exact this
    ra := ownsRow_setCell_other h.ra (by simp [Value.ownBlock]; exact h.ab) _
    rt := ownsRow_setCell_other h.rt (by simp [Value.ownBlock]; exact fun e => h.bt e.symm) _ }

theorem HpAt.setNode (h : HpAt w p a b t ca cb ct ss ins m T) (i : Nat) (x y : Int) (hi : i < T.length) : HpAt ((w.setCell ⟨t, i * 2, none⟩ (.int .i64 x)).setCell ⟨t, i * 2 + 1, none⟩ (.int .i64 y)) p a b t ca cb ct ss ins m (T.set i (x, y)) :=
  { h with
    c0 := (set_off (.inl (fun e => h.pt e.symm))).trans ((set_off (.inl (fun e => h.pt e.symm))).trans h.c0)
    c1 := (set_off (.inl (fun e => h.pt e.symm))).trans ((set_off (.inl (fun e => h.pt e.symm))).trans h.c1)
    c2 := (set_off (.inl (fun e => h.pt e.symm))).trans ((set_off (.inl (fun e => h.pt e.symm))).trans h.c2)
    c3 := by rw [List.length_set]; exact (set_off (.inl (fun e => h.pt e.symm))).trans ((set_off (.inl (fun e => h.pt e.symm))).trans h.c3)
    fr := fun i => set_fr (set_fr (h.fr i))
    rt := by
      have h1 := own_setAt h.rt (i * 2) (.int .i64 x) (by rw [nflat_len]; omega)
      have h2 := own_setAt h1 (i * 2 + 1) (.int .i64 y) (by rw [List.length_set, nflat_len]; omega)
      rw [nflat_set T i (x, y) hi] at h2
      rw [List.length_set]
      exact h2
    ra := ownsRow_setCell_other (ownsRow_setCell_other h.ra (by simp [Value.ownBlock]; exact h.at') _) (by simp [Value.ownBlock]; exact h.at') _
    rb := ownsRow_setCell_other (ownsRow_setCell_other h.rb (by simp [Value.ownBlock]; exact h.bt) _) (by simp [Value.ownBlock]; exact h.bt) _ }

/-- A row of scores behind an append, put into its place. -/
theorem HpAt.appScore {g c : Nat} {x : Int} (h : HpAt w p a b t ca cb ct ss ins m T) (hap : App 0 w w' (.slice (some ⟨a, 0, none⟩) ss.length ca) (.slice (some ⟨g, 0, none⟩) (ss.length + 1) c))
    (ho : w'.ownsRow 0 3 1 (.slice (some ⟨g, 0, none⟩) (ss.length + 1) c) (ss.length + 1) ((ss ++ [x]).map (Value.int .i64))) :
    HpAt (w'.setCell ⟨p, 0, none⟩ (.slice (some ⟨g, 0, none⟩) (ss.length + 1) c)) p g b t c cb ct (ss ++ [x]) ins m T ∧ (g = a ∨ w.heap.size ≤ g) ∧ Chg [a] w w' := by
  have hc : Chg [a] w w' := Chg.app hap (fun k hk => by simp [Value.ownBlock] at hk; simp [hk])
  have hg : g = a ∨ w.heap.size ≤ g := by
    rcases hap.blk with e | ⟨k, e, hk⟩
    · left; simpa [Value.ownBlock] using e
    · right
      have : g = k := by simpa [Value.ownBlock] using e
      omega
  have hp := h.lt p (by simp)
  have hb := h.lt b (by simp)
  have ht := h.lt t (by simp)
  have gp : p ≠ g := fun e => hg.elim (fun e' => h.pa (by rw [e, e'])) (fun e' => by omega)
  have gb : g ≠ b := fun e => hg.elim (fun e' => h.ab (by rw [← e', e])) (fun e' => by omega)
  have gt : g ≠ t := fun e => hg.elim (fun e' => h.at' (by rw [← e', e])) (fun e' => by omega)
  have kp := fun o => hc.cell (o := o) hp (by simp; exact h.pa)
  refine ⟨{ h with
    c0 := by rw [List.length_append]; exact set_at ((kp 0).trans h.c0)
    c1 := (set_off (.inr (by decide))).trans ((kp 1).trans h.c1)
    c2 := (set_off (.inr (by decide))).trans ((kp 2).trans h.c2)
    c3 := (set_off (.inr (by decide))).trans ((kp 3).trans h.c3)
    fr := fun i => set_fr ((World.frozen?_of_block (a := ⟨p, i, none⟩) (hc.block p hp (by simp; exact h.pa))).trans (h.fr i))
    ra := by
      rw [List.length_append]
      exact ownsRow_setCell_other ho (by simp [Value.ownBlock]; exact fun e => gp e.symm) _
    rb := ownsRow_setCell_other (own_chg h.rb hc (fun k hk => by simp [Value.ownBlock] at hk; subst hk; simp; exact fun e => h.ab e.symm)) (by simp [Value.ownBlock]; exact fun e => h.pb e.symm) _
    rt := ownsRow_setCell_other (own_chg h.rt hc (fun k hk => by simp [Value.ownBlock] at hk; subst hk; simp; exact fun e => h.at' e.symm)) (by simp [Value.ownBlock]; exact fun e => h.pt e.symm) _
    pa := gp, ab := gb, at' := gt }, hg, hc⟩

/-- The same of the row that tells who is in. -/
theorem HpAt.appIn {g c : Nat} {x : Bool} (h : HpAt w p a b t ca cb ct ss ins m T) (hap : App 0 w w' (.slice (some ⟨b, 0, none⟩) ins.length cb) (.slice (some ⟨g, 0, none⟩) (ins.length + 1) c))
    (ho : w'.ownsRow 0 4 1 (.slice (some ⟨g, 0, none⟩) (ins.length + 1) c) (ins.length + 1) ((ins ++ [x]).map Value.bool)) :
    HpAt (w'.setCell ⟨p, 1, none⟩ (.slice (some ⟨g, 0, none⟩) (ins.length + 1) c)) p a g t ca c ct ss (ins ++ [x]) m T ∧ (g = b ∨ w.heap.size ≤ g) ∧ Chg [b] w w' := by
  have hc : Chg [b] w w' := Chg.app hap (fun k hk => by simp [Value.ownBlock] at hk; simp [hk])
  have hg : g = b ∨ w.heap.size ≤ g := by
    rcases hap.blk with e | ⟨k, e, hk⟩
    · left; simpa [Value.ownBlock] using e
    · right
      have : g = k := by simpa [Value.ownBlock] using e
      omega
  have hp := h.lt p (by simp)
  have ha := h.lt a (by simp)
  have ht := h.lt t (by simp)
  have gp : p ≠ g := fun e => hg.elim (fun e' => h.pb (by rw [e, e'])) (fun e' => by omega)
  have gb : a ≠ g := fun e => hg.elim (fun e' => h.ab (by rw [e, e'])) (fun e' => by omega)
  have gt : g ≠ t := fun e => hg.elim (fun e' => h.bt (by rw [← e', e])) (fun e' => by omega)
  have kp := fun o => hc.cell (o := o) hp (by simp; exact h.pb)
  refine ⟨{ h with
    c0 := (set_off (.inr (by decide))).trans ((kp 0).trans h.c0)
    c1 := by rw [List.length_append]; exact set_at ((kp 1).trans h.c1)
    c2 := (set_off (.inr (by decide))).trans ((kp 2).trans h.c2)
    c3 := (set_off (.inr (by decide))).trans ((kp 3).trans h.c3)
    fr := fun i => set_fr ((World.frozen?_of_block (a := ⟨p, i, none⟩) (hc.block p hp (by simp; exact h.pb))).trans (h.fr i))
    rb := by
      rw [List.length_append]
      exact ownsRow_setCell_other ho (by simp [Value.ownBlock]; exact fun e => gp e.symm) _
    ra := ownsRow_setCell_other (own_chg h.ra hc (fun k hk => by simp [Value.ownBlock] at hk; subst hk; simp; exact h.ab)) (by simp [Value.ownBlock]; exact fun e => h.pa e.symm) _
    rt := ownsRow_setCell_other (own_chg h.rt hc (fun k hk => by simp [Value.ownBlock] at hk; subst hk; simp; exact fun e => h.bt e.symm)) (by simp [Value.ownBlock]; exact fun e => h.pt e.symm) _
    pb := gp, ab := gb, bt := gt }, hg, hc⟩

/-- A new tree, put into its place. -/
theorem HpAt.newTree {c : Nat} {T' : List Nd} (h : HpAt w p a b t ca cb ct ss ins m T) (hb : Below w.heap.size w w')
    (ho : w'.ownsRow 0 49 2 (.slice (some ⟨w.heap.size, 0, none⟩) T'.length c) T'.length (T'.flatMap ncells)) :
    HpAt (w'.setCell ⟨p, 3, none⟩ (.slice (some ⟨w.heap.size, 0, none⟩) T'.length c)) p a b w.heap.size ca cb c ss ins m T' := by
  have hp := h.lt p (by simp)
  have ha := h.lt a (by simp)
  have hb' := h.lt b (by simp)
  have h' := h.below hb
  exact { h' with
    c0 := (set_off (.inr (by decide))).trans h'.c0
    c1 := (set_off (.inr (by decide))).trans h'.c1
    c2 := (set_off (.inr (by decide))).trans h'.c2
    c3 := set_at h'.c3
    fr := fun i => set_fr (h'.fr i)
    ra := ownsRow_setCell_other h'.ra (by simp [Value.ownBlock]; exact fun e => h.pa e.symm) _
    rb := ownsRow_setCell_other h'.rb (by simp [Value.ownBlock]; exact fun e => h.pb e.symm) _
    rt := ownsRow_setCell_other ho (by simp [Value.ownBlock]; omega) _
    pt := by omega, at' := by omega, bt := by omega }
end

/-- The document's heap behind p. -/
structure RpAt (w : World) (p a b ca cb : Nat) (ss : List Int) (ins : List Bool) : Prop where
  c0 : w.cell? ⟨p, 0, none⟩ = some (.slice (some ⟨a, 0, none⟩) ss.length ca)
  c1 : w.cell? ⟨p, 1, none⟩ = some (.slice (some ⟨b, 0, none⟩) ins.length cb)
  fr : ∀ i, w.frozen? ⟨p, i, none⟩ = false
  ra : w.ownsRow 0 3 1 (.slice (some ⟨a, 0, none⟩) ss.length ca) ss.length (ss.map (Value.int .i64))
  rb : w.ownsRow 0 4 1 (.slice (some ⟨b, 0, none⟩) ins.length cb) ins.length (ins.map Value.bool)
  pa : p ≠ a
  pb : p ≠ b
  ab : a ≠ b
section
variable {w w' : World} {p a b ca cb : Nat} {ss : List Int} {ins : List Bool}

theorem RpAt.lt (h : RpAt w p a b ca cb ss ins) : ∀ i ∈ [p, a, b], i < w.heap.size := by
  intro i hi
  simp only [List.mem_cons, List.not_mem_nil, or_false] at hi
  rcases hi with rfl | rfl | rfl
  · exact World.block_lt_of_cell? w _ h.c0
  · exact (own_lt h.ra).2
  · exact (own_lt h.rb).2

theorem RpAt.keep {S : List Nat} (h : RpAt w p a b ca cb ss ins) (hc : Chg S w w') (hd : ∀ i ∈ [p, a, b], i ∉ S) : RpAt w' p a b ca cb ss ins := by
  have hp := h.lt p (by simp)
  have kp := fun o => hc.cell (o := o) hp (hd p (by simp))
  exact { h with
    c0 := (kp 0).trans h.c0
    c1 := (kp 1).trans h.c1
    fr := fun i => (World.frozen?_of_block (a := ⟨p, i, none⟩) (hc.block p hp (hd p (by simp)))).trans (h.fr i)
    ra := own_chg h.ra hc (fun k hk => hd k (by simp [Value.ownBlock] at hk; simp [hk]))
    rb := own_chg h.rb hc (fun k hk => hd k (by simp [Value.ownBlock] at hk; simp [hk])) }

theorem RpAt.below (h : RpAt w p a b ca cb ss ins) (hb : Below w.heap.size w w') : RpAt w' p a b ca cb ss ins := h.keep (Chg.of_below (S := []) hb) (by simp)

theorem RpAt.score (h : RpAt w p a b ca cb ss ins) {i : Nat} (hi : i < ss.length) : w.cell? ⟨a, i, none⟩ = some (.int .i64 (ss.getD i 0)) := own_cell h.ra (by simp [List.getD, hi])

theorem RpAt.isin (h : RpAt w p a b ca cb ss ins) {i : Nat} (hi : i < ins.length) : w.cell? ⟨b, i, none⟩ = some (.bool (ins.getD i false)) := own_cell h.rb (by simp [List.getD, hi])

theorem RpAt.setScore (h : RpAt w p a b ca cb ss ins) (i : Nat) (x : Int) (hi : i < ss.length) : RpAt (w.setCell ⟨a, i, none⟩ (.int .i64 x)) p a b ca cb (ss.set i x) ins :=
  { h with
    c0 := by rw [List.length_set]; exact (set_off (.inl (fun e => h.pa e.symm))).trans h.c0
    c1 := (set_off (.inl (fun e => h.pa e.symm))).trans h.c1
    fr := fun i => set_fr (h.fr i)
    ra := by
      have := own_setAt h.ra i (.int .i64 x) (by simpa using hi)
      rw [List.length_set, List.map_set]
      exact this
    rb := ownsRow_setCell_other h.rb (by simp [Value.ownBlock]; exact fun e => h.ab e.symm) _ }

theorem RpAt.setIn (h : RpAt w p a b ca cb ss ins) (i : Nat) (x : Bool) (hi : i < ins.length) : RpAt (w.setCell ⟨b, i, none⟩ (.bool x)) p a b ca cb ss (ins.set i x) :=
  { h with
    c0 := (set_off (.inl (fun e => h.pb e.symm))).trans h.c0
    c1 := by rw [List.length_set]; exact (set_off (.inl (fun e => h.pb e.symm))).trans h.c1
    fr := fun i => set_fr (h.fr i)
    rb := by
      have := own_setAt h.rb i (.bool x) (by simpa using hi)
      rw [List.length_set, List.map_set]
      exact this
    ra := ownsRow_setCell_other h.ra (by simp [Value.ownBlock]; exact h.ab) _ }

theorem RpAt.appScore {g c : Nat} {x : Int} (h : RpAt w p a b ca cb ss ins) (hap : App 0 w w' (.slice (some ⟨a, 0, none⟩) ss.length ca) (.slice (some ⟨g, 0, none⟩) (ss.length + 1) c))
    (ho : w'.ownsRow 0 3 1 (.slice (some ⟨g, 0, none⟩) (ss.length + 1) c) (ss.length + 1) ((ss ++ [x]).map (Value.int .i64))) :
    RpAt (w'.setCell ⟨p, 0, none⟩ (.slice (some ⟨g, 0, none⟩) (ss.length + 1) c)) p g b c cb (ss ++ [x]) ins ∧ (g = a ∨ w.heap.size ≤ g) ∧ Chg [a] w w' := by
  have hc : Chg [a] w w' := Chg.app hap (fun k hk => by simp [Value.ownBlock] at hk; simp [hk])
  have hg : g = a ∨ w.heap.size ≤ g := by
    rcases hap.blk with e | ⟨k, e, hk⟩
    · left; simpa [Value.ownBlock] using e
    · right
      have : g = k := by simpa [Value.ownBlock] using e
      omega
  have hp := h.lt p (by simp)
  have hb := h.lt b (by simp)
  have gp : p ≠ g := fun e => hg.elim (fun e' => h.pa (by rw [e, e'])) (fun e' => by omega)
  have gb : g ≠ b := fun e => hg.elim (fun e' => h.ab (by rw [← e', e])) (fun e' => by omega)
  have kp := fun o => hc.cell (o := o) hp (by simp; exact h.pa)
  refine ⟨{ h with
    c0 := by rw [List.length_append]; exact set_at ((kp 0).trans h.c0)
    c1 := (set_off (.inr (by decide))).trans ((kp 1).trans h.c1)
    fr := fun i => set_fr ((World.frozen?_of_block (a := ⟨p, i, none⟩) (hc.block p hp (by simp; exact h.pa))).trans (h.fr i))
    ra := by
      rw [List.length_append]
      exact ownsRow_setCell_other ho (by simp [Value.ownBlock]; exact fun e => gp e.symm) _
    rb := ownsRow_setCell_other (own_chg h.rb hc (fun k hk => by simp [Value.ownBlock] at hk; subst hk; simp; exact fun e => h.ab e.symm)) (by simp [Value.ownBlock]; exact fun e => h.pb e.symm) _
    pa := gp, ab := gb }, hg, hc⟩

theorem RpAt.appIn {g c : Nat} {x : Bool} (h : RpAt w p a b ca cb ss ins) (hap : App 0 w w' (.slice (some ⟨b, 0, none⟩) ins.length cb) (.slice (some ⟨g, 0, none⟩) (ins.length + 1) c))
    (ho : w'.ownsRow 0 4 1 (.slice (some ⟨g, 0, none⟩) (ins.length + 1) c) (ins.length + 1) ((ins ++ [x]).map Value.bool)) :
    RpAt (w'.setCell ⟨p, 1, none⟩ (.slice (some ⟨g, 0, none⟩) (ins.length + 1) c)) p a g ca c ss (ins ++ [x]) ∧ (g = b ∨ w.heap.size ≤ g) ∧ Chg [b] w w' := by
  have hc : Chg [b] w w' := Chg.app hap (fun k hk => by simp [Value.ownBlock] at hk; simp [hk])
  have hg : g = b ∨ w.heap.size ≤ g := by
    rcases hap.blk with e | ⟨k, e, hk⟩
    · left; simpa [Value.ownBlock] using e
    · right
      have : g = k := by simpa [Value.ownBlock] using e
      omega
  have hp := h.lt p (by simp)
  have ha := h.lt a (by simp)
  have gp : p ≠ g := fun e => hg.elim (fun e' => h.pb (by rw [e, e'])) (fun e' => by omega)
  have gb : a ≠ g := fun e => hg.elim (fun e' => h.ab (by rw [e, e'])) (fun e' => by omega)
  have kp := fun o => hc.cell (o := o) hp (by simp; exact h.pb)
  refine ⟨{ h with
    c0 := (set_off (.inr (by decide))).trans ((kp 0).trans h.c0)
    c1 := by rw [List.length_append]; exact set_at ((kp 1).trans h.c1)
    fr := fun i => set_fr ((World.frozen?_of_block (a := ⟨p, i, none⟩) (hc.block p hp (by simp; exact h.pb))).trans (h.fr i))
    rb := by
      rw [List.length_append]
      exact ownsRow_setCell_other ho (by simp [Value.ownBlock]; exact fun e => gp e.symm) _
    ra := ownsRow_setCell_other (own_chg h.ra hc (fun k hk => by simp [Value.ownBlock] at hk; subst hk; simp; exact h.ab)) (by simp [Value.ownBlock]; exact fun e => h.pa e.symm) _
    pb := gp, ab := gb }, hg, hc⟩
end
end Go.Proofs.Yteiidcogjmekhaa
