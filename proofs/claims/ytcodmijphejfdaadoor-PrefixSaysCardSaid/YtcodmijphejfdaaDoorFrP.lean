/- For the document's own skolemref1.Free: what a number's place in a rising list makes of it; what the loops keep: two rows of the call's own. Conditions: those typed. -/
import Derived.Test.YtcodmijphejfdaaDoorChg
import Derived.Test.YtcodmijphejfdaaDoorFreeP
import Derived.Test.YtcodmijphejfdaaDoorBrow
namespace Go.Proofs.YtcodmijphejfdaaDoor
open Go.RowKit

/-- Put in at its place. -/
theorem ins_at (v : Int) : ∀ (l : List Int) (q : Nat), q ≤ l.length → (∀ j, j < q → l.getD j 0 < v) → (q < l.length → ¬ l.getD q 0 < v) → l.take q ++ [v] ++ l.drop q = insS l v
  | [], q, h, _, _ => by
    have : q = 0 := by simpa using h
    subst this
    simp [insS]
  | a :: l, 0, _, _, h => by
    have h0 : ¬ a < v := by simpa using h (by simp)
    simp [insS, h0]
  | a :: l, q + 1, h, h1, h2 => by
    have h0 : a < v := by simpa using h1 0 (by omega)
    have hi := ins_at v l q (by simpa using h) (fun j hj => by simpa using h1 (j + 1) (by omega)) (fun hj => by simpa using h2 (by simpa using hj))
    unfold insS at hi ⊢
    simp only [List.takeWhile_cons, List.dropWhile_cons, h0, decide_true, if_true, List.take_succ_cons, List.drop_succ_cons, List.cons_append] at hi ⊢
    rw [hi]

/-- What was met, and what is free so far. -/
structure FrR (bound sn ou dn : List Int) : Prop where
  mem : ∀ x, x ∈ sn ↔ x ∈ bound ∨ x ∈ ou
  eq : ou = (dn.map absI).foldl (freeStep bound) []
  len : sn.length = bound.length + ou.length
section
variable {bound sn ou dn : List Int} {x : Int}
theorem FrR.start (bound : List Int) : FrR bound bound [] [] := ⟨fun x => by simp, rfl, by simp⟩
theorem FrR.few (h : FrR bound sn ou dn) : ou.length ≤ dn.length := by
  have := foldl_len bound (dn.map absI) []
  rw [← h.eq] at this
  simpa using this
theorem FrR.skip (h : FrR bound sn ou dn) (hx : absI x ∈ sn) : FrR bound sn ou (dn ++ [x]) :=
  ⟨h.mem, by
    rw [List.map_append, List.foldl_append, ← h.eq]
    have := (h.mem _).1 hx
    simp [freeStep]
    intro h1 h2
    exact absurd this (by simp [h1, h2]), h.len⟩
theorem FrR.ins (h : FrR bound sn ou dn) (hx : absI x ∉ sn) : FrR bound (sn ++ [absI x]) (insS ou (absI x)) (dn ++ [x]) := by
  have hn : absI x ∉ bound ∧ absI x ∉ ou := by
    constructor
    · exact fun hm => hx ((h.mem _).2 (.inl hm))
    · exact fun hm => hx ((h.mem _).2 (.inr hm))
  refine ⟨fun y => ?_, ?_, ?_⟩
  · rw [List.mem_append, List.mem_singleton, h.mem y, insS_mem, or_assoc]
  · rw [List.map_append, List.foldl_append, ← h.eq]
    simp [freeStep, hn.1, hn.2]
  · rw [List.length_append, insS_len, h.len]; simp; omega
end

/-- Two rows of the call's own, in blocks of their own; nothing else has turned. -/
structure Fr2 (W0 : World) (B : Nat) (W : World) (s : Value) (sn : List Int) (o : Value) (ou : List Int) : Prop where
  below : Below B W0 W
  size : B ≤ W.heap.size
  os : W.ownsRow B 3 1 s sn.length (sn.map (Value.int .i64))
  oo : W.ownsRow B 3 1 o ou.length (ou.map (Value.int .i64))
  sep : ∀ k, s.ownBlock = some k → o.ownBlock ≠ some k
  nil : ou = [] → o = .slice none 0 0
section
variable {W0 W W' : World} {B : Nat} {s s' o o' : Value} {sn ou : List Int}
theorem Fr2.start (h : Below B W0 W) (hs : B ≤ W.heap.size) (ho : W.ownsRow B 3 1 s sn.length (sn.map (Value.int .i64))) : Fr2 W0 B W s sn (.slice none 0 0) [] :=
  ⟨h, hs, ho, World.ownsRow_nil _ _ _ _, fun k _ e => (by cases e), fun _ => rfl⟩
theorem Fr2.seen (h : Fr2 W0 B W s sn o ou) {y : Int} (hown : W'.ownsRow B 3 1 s' (sn.length + 1) ((sn ++ [y]).map (Value.int .i64))) (hap : App B W W' s s') : Fr2 W0 B W' s' (sn ++ [y]) o ou := by
  obtain ⟨a, b⟩ := app_sep hap h.oo h.sep
  exact ⟨h.below.trans hap.below, Nat.le_trans h.size hap.below.size, by simpa using hown, a, b, h.nil⟩
theorem Fr2.out (h : Fr2 W0 B W s sn o ou) {v : Int} {q n9 : Nat} (hn : n9 = ou.length + 1) (hown : W'.ownsRow W.heap.size 3 1 o' n9 ((ou.take q ++ [v] ++ ou.drop q).map (Value.int .i64))) (hb : Below W.heap.size W W') (he : ou.take q ++ [v] ++ ou.drop q = insS ou v) : Fr2 W0 B W' s sn o' (insS ou v) := by
  rw [he] at hown
  subst hn
  refine ⟨h.below.trans (hb.mono h.size), Nat.le_trans h.size hb.size, own_keep h.os hb, by rw [insS_len]; exact own_base hown h.size, fun k hk hk' => ?_, fun e => ?_⟩
  · have h1 := (h.os.lt k hk).2
    have h2 := (hown.lt k hk').1
    omega
  · have := insS_len ou v
    rw [e] at this
    simp at this
end
end Go.Proofs.YtcodmijphejfdaaDoor
