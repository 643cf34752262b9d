/- A graph beside two rows of ints ('GRow2'): calls, appends to the second one. Conditions: those typed. -/
import Derived.Test.YtbighmmjmklioaaDoorGoi
namespace Go.Proofs.YtbighmmjmklioaaDoor
open Go.RowKit

theorem allG_n (g : Gr) (ls : List Int) : (allG g ls).1.n = g.n := by
  have key : ∀ (ls : List Int) (s : Gr × Int), (ls.foldl stepAll s).1.n = s.1.n := by
    intro ls
    induction ls with
    | nil => intro s; rfl
    | cons x ls ih => intro s; rw [List.foldl_cons, ih]; exact andG_n _ _ _
  exact key ls (g, 1)
theorem clsG_n (g : Gr) (cs : List (List Int)) : (clsG g cs).1.n = g.n := by
  have key : ∀ (cs : List (List Int)) (s : Gr × List Int), (cs.foldl stepCl s).1.n = s.1.n := by
    intro cs
    induction cs with
    | nil => intro s; rfl
    | cons x cs ih => intro s; rw [List.foldl_cons, ih]; exact allG_n _ _
  exact key cs (g, [])
theorem anyG_bd {g : Gr} (h : g.len ≤ 8000) (ls : List Int) : 0 ≤ (anyG g ls).2 ∧ (anyG g ls).2 ≤ 16002 ∧ (anyG g ls).1.len ≤ 8000 := by
  have h1 := allG_bd h (ls.map notI)
  have h2 := notI_of (allG g (ls.map notI)).2 h1.1
  unfold anyG
  exact ⟨h2.1, by simp only; omega, h1.2.2⟩
theorem clsG_bd {g : Gr} (h : g.len ≤ 8000) (cs : List (List Int)) : (∀ x ∈ (clsG g cs).2, 0 ≤ x ∧ x ≤ 20000) ∧ (clsG g cs).1.len ≤ 8000 := by
  have key : ∀ (cs : List (List Int)) (s : Gr × List Int), ((∀ x ∈ s.2, 0 ≤ x ∧ x ≤ 20000) ∧ s.1.len ≤ 8000) → (∀ x ∈ (cs.foldl stepCl s).2, 0 ≤ x ∧ x ≤ 20000) ∧ (cs.foldl stepCl s).1.len ≤ 8000 := by
    intro cs
    induction cs with
    | nil => intro s h; exact h
    | cons c cs ih =>
      intro s h
      have h1 := anyG_bd h.2 (c.map litI)
      refine ih _ ⟨fun x hx => ?_, h1.2.2⟩
      rcases List.mem_append.1 hx with hx | hx
      · exact h.1 x hx
      · rw [List.mem_singleton] at hx
        subst hx
        exact ⟨h1.1, by omega⟩
  exact key cs (g, []) ⟨fun x hx => (by cases hx), h⟩
theorem clsG_len (g : Gr) (cs : List (List Int)) : (clsG g cs).2.length = cs.length := by
  have key : ∀ (cs : List (List Int)) (s : Gr × List Int), (cs.foldl stepCl s).2.length = s.2.length + cs.length := by
    intro cs
    induction cs with
    | nil => intro s; rfl
    | cons c cs ih => intro s; rw [List.foldl_cons, ih]; simp [stepCl]; omega
  have := key cs (g, [])
  simpa [clsG] using this

structure GRow2At (G : World → List Nat → Gr → Prop) (w : World) (S : List Nat) (g : Gr) (u : Value) (xs : List Int) (z : Value) (ys : List Int) (S' : List Nat) (W : World) : Prop where
  one : GRowAt G w S g u xs S' W
  row : W.ownsRow w.heap.size 3 1 z ys.length (ys.map (Value.int .i64))
  off : ∀ k, z.ownBlock = some k → k ∉ S'
  sep : ∀ k, u.ownBlock = some k → z.ownBlock ≠ some k
def GRow2 (G : World → List Nat → Gr → Prop) (w : World) (S : List Nat) (g : Gr) (u : Value) (xs : List Int) (z : Value) (ys : List Int) (W : World) : Prop := ∃ S', GRow2At G w S g u xs z ys S' W
section
variable {G : World → List Nat → Gr → Prop} {E : World → List Nat → Prop} {v : Value} {fA fI : Nat} {w W : World} {S : List Nat} {g : Gr} {u z : Value} {xs ys : List Int}
theorem GRow2.start (h : GRow G w S g u xs W) : GRow2 G w S g u xs (.slice none 0 0) [] W := by
  obtain ⟨S', h⟩ := h
  exact ⟨S', h, World.ownsRow_nil _ _ _ _, fun k hk => (by cases hk), fun k _ hk => (by cases hk)⟩
theorem GRow2.drop (h : GRow2 G w S g u xs z ys W) : GRow G w S g u xs W := by obtain ⟨S', h⟩ := h; exact ⟨S', h.one⟩
theorem GRow2.chg (h : GRow2 G w S g u xs z ys W) : Chg S w W := h.drop.chg
theorem GRow2.urow (h : GRow2 G w S g u xs z ys W) : W.ownsRow w.heap.size 3 1 u xs.length (xs.map (Value.int .i64)) := h.drop.row
theorem GRow2.row (h : GRow2 G w S g u xs z ys W) : W.ownsRow w.heap.size 3 1 z ys.length (ys.map (Value.int .i64)) := by obtain ⟨S', h⟩ := h; exact h.row
theorem GRow2.call (H : GOp G E v fA fI) (hE : E w S) (h : GRow2 G w S g u xs z ys W) {P : Program} {f : Nat} {args : Array Value} {r : Gr × Int} (hc : ∀ S', E W S' → G W S' g → Fresh w S S' → Calls P f args W (GPost G W S' r)) :
    Calls P f args W fun e w' => e = .returned (.int .i64 r.2) ∧ GRow2 G w S r.1 u xs z ys w' := by
  obtain ⟨S', h⟩ := h
  refine (hc S' (H.env hE h.one.chg h.one.fresh) h.one.gr h.one.fresh).mono ?_
  rintro e w' ⟨he, ⟨S'', hG', hF'⟩, hC'⟩
  have hub : ∀ k, u.ownBlock = some k → k < W.heap.size := fun k hu => rowB_lt h.one.row k (mem_rowB.2 hu)
  have hzb : ∀ k, z.ownBlock = some k → k < W.heap.size := fun k hu => rowB_lt h.row k (mem_rowB.2 hu)
  exact ⟨he, S'', ⟨hG', h.one.fresh.trans hF' h.one.chg.size, h.one.chg.trans hC' h.one.fresh, own_chg h.one.row hC' h.one.off, fun k hu hi => (hF' k hi).elim (h.one.off k hu) fun h' => absurd (hub k hu) (Nat.not_lt.2 h')⟩, own_chg h.row hC' h.off, fun k hu hi => (hF' k hi).elim (h.off k hu) fun h' => absurd (hzb k hu) (Nat.not_lt.2 h'), h.sep⟩
theorem GRow2.app (hk : GKind G) (h : GRow2 G w S g u xs z ys W) {w' : World} {z' : Value} {y : Int} (hown : w'.ownsRow w.heap.size 3 1 z' (ys.length + 1) ((ys ++ [y]).map (Value.int .i64))) (hap : App w.heap.size W w' z z') : GRow2 G w S g u xs z' (ys ++ [y]) w' := by
  obtain ⟨S', h⟩ := h
  have hc : Chg (rowB z) W w' := Chg.app hap fun k hu => mem_rowB.2 hu
  have hlt : ∀ i ∈ rowB z, w.heap.size ≤ i := fun i hi => (h.row.lt i (mem_rowB.1 hi)).1
  have hub : ∀ k, u.ownBlock = some k → k < W.heap.size := fun k hu => rowB_lt h.one.row k (mem_rowB.2 hu)
  refine ⟨S', ⟨hk.keep h.one.gr hc (fun i hi hm => h.off i (mem_rowB.1 hm) hi), h.one.fresh, h.one.chg.trans hc (fun i hi => .inr (hlt i hi)), ?_, h.one.off⟩, by simpa using hown, fun k hu hi => ?_, fun k hu hz => ?_⟩
  · refine own_chg h.one.row hc fun k hu hm => h.sep k hu (mem_rowB.1 hm)
  · rcases hap.blk with e | ⟨q, e, hq⟩
    · exact h.off k (e ▸ hu) hi
    · rw [e] at hu
      injection hu with hu
      have := hk.lt h.one.gr k hi
      omega
  · rcases hap.blk with e | ⟨q, e, hq⟩
    · exact h.sep k hu (e ▸ hz)
    · rw [e] at hz
      injection hz with hz
      have := hub k hu
      omega
theorem GRow2.keep (hk : GKind G) (h : GRow2 G w S g u xs z ys W) {W' : World} (hb : Below W.heap.size W W') : GRow2 G w S g u xs z ys W' := by
  obtain ⟨S', h⟩ := h
  exact ⟨S', ⟨hk.keep h.one.gr (Chg.of_below (S := []) hb) (by simp), h.one.fresh, h.one.chg.trans (Chg.of_below (S := []) hb) (fun i hi => by cases hi), own_keep h.one.row hb, h.one.off⟩, own_keep h.row hb, h.off, h.sep⟩
/-- A call that reads the second row. -/
theorem GRow2.callz (H : GOp G E v fA fI) (hE : E w S) (h : GRow2 G w S g u xs z ys W) {P : Program} {f : Nat} {args : Array Value} {r : Gr × Int} (hc : ∀ S', E W S' → G W S' g → OffI W S' z ys → Calls P f args W fun e w' => e = .returned (.int .i64 r.2) ∧ GIn G W S' r.1 w') :
    Calls P f args W fun e w' => e = .returned (.int .i64 r.2) ∧ GRow G w S r.1 u xs w' := by
  obtain ⟨S', h⟩ := h
  refine (hc S' (H.env hE h.one.chg h.one.fresh) h.one.gr (OffI.of_own' h.row h.off)).mono ?_
  rintro e w' ⟨he, ⟨S'', hG', hF'⟩, hC'⟩
  have hub : ∀ k, u.ownBlock = some k → k < W.heap.size := fun k hu => rowB_lt h.one.row k (mem_rowB.2 hu)
  exact ⟨he, S'', hG', h.one.fresh.trans hF' h.one.chg.size, h.one.chg.trans hC' h.one.fresh, own_chg h.one.row hC' h.one.off, fun k hu hi => (hF' k hi).elim (h.one.off k hu) fun h' => absurd (hub k hu) (Nat.not_lt.2 h')⟩
/-- A call that reads the row itself. -/
theorem GRow.callu (H : GOp G E v fA fI) (hE : E w S) (h : GRow G w S g u xs W) {P : Program} {f : Nat} {args : Array Value} {r : Gr × Int} (hc : ∀ S', E W S' → G W S' g → OffI W S' u xs → Calls P f args W fun e w' => e = .returned (.int .i64 r.2) ∧ GIn G W S' r.1 w') :
    Calls P f args W fun e w' => e = .returned (.int .i64 r.2) ∧ GIn G w S r.1 w' := by
  obtain ⟨S', h⟩ := h
  refine (hc S' (H.env hE h.chg h.fresh) h.gr (OffI.of_own' h.row h.off)).mono ?_
  rintro e w' ⟨he, ⟨S'', hG', hF'⟩, hC'⟩
  exact ⟨he, ⟨S'', hG', h.fresh.trans hF' h.chg.size⟩, h.chg.trans hC' h.fresh⟩
/-- A call that makes a second row. -/
theorem GRow.more (H : GOp G E v fA fI) (hE : E w S) (h : GRow G w S g u xs W) {P : Program} {f : Nat} {args : Array Value} {r : Gr} (hc : ∀ S', E W S' → G W S' g → Chg S w W → Fresh w S S' → Calls P f args W fun e w' => ∃ z, e = .returned z ∧ GRow G W S' r z ys w') :
    Calls P f args W fun e w' => ∃ z, e = .returned z ∧ GRow2 G w S r u xs z ys w' := by
  obtain ⟨S', h⟩ := h
  refine (hc S' (H.env hE h.chg h.fresh) h.gr h.chg h.fresh).mono ?_
  rintro e w' ⟨z, he, S'', hz⟩
  have hub : ∀ k, u.ownBlock = some k → k < W.heap.size := fun k hu => rowB_lt h.row k (mem_rowB.2 hu)
  exact ⟨z, he, S'', ⟨hz.gr, h.fresh.trans hz.fresh h.chg.size, h.chg.trans hz.chg h.fresh, own_chg h.row hz.chg h.off, fun k hu hi => (hz.fresh k hi).elim (h.off k hu) fun h' => absurd (hub k hu) (Nat.not_lt.2 h')⟩, own_base hz.row h.chg.size, hz.off, fun k hu hk => absurd (hub k hu) (Nat.not_lt.2 (hz.row.lt k hk).1)⟩
end
end Go.Proofs.YtbighmmjmklioaaDoor
