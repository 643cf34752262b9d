/- The contract of skolemmake.Formula at nine variables: two blocks of unlike kinds, their variables among these, no two alike; where the first does not exist, all of them. Conditions: the slice reads as 64-bit ints and is short. -/
import Derived.Test.YtjpchjbpolcndaaDoorMakeC
import Derived.Test.YtjpchjbpolcndaaDoorNormZ
namespace Go.Proofs.YtjpchjbpolcndaaDoor
open Go.RowKit

/-- What holds of the two blocks' variables before the variable v. -/
structure SpI (ex : Bool) (v : Int) (la lb : List Int) : Prop where
  rng : ∀ u, u ∈ la ++ lb → 1 ≤ u ∧ u < v
  nd : (la ++ lb).Nodup
  all : ex = false → ∀ u, 1 ≤ u → u < v → u ∈ la ++ lb
theorem SpI.start (ex : Bool) : SpI ex 1 [] [] := ⟨fun u h => by simp at h, by simp, fun _ u h1 h2 => by omega⟩
theorem SpI.skip {v : Int} {la lb : List Int} (h : SpI true v la lb) : SpI true (v + 1) la lb :=
  ⟨fun u hu => by have := h.rng u hu; omega, h.nd, fun e => (by cases e)⟩
theorem SpI.putA {ex : Bool} {v : Int} {la lb : List Int} (h : SpI ex v la lb) (hv : 1 ≤ v) : SpI ex (v + 1) (la ++ [v]) lb := by
  have hm : ∀ u, u ∈ la ++ [v] ++ lb ↔ u ∈ la ++ lb ∨ u = v := fun u => by
    simp only [List.mem_append, List.mem_singleton]
    constructor
    · rintro ((a | a) | a)
      · exact .inl (.inl a)
      · exact .inr a
      · exact .inl (.inr a)
    · rintro ((a | a) | a)
      · exact .inl (.inl a)
      · exact .inr a
      · exact .inl (.inr a)
  refine ⟨fun u hu => ?_, ?_, fun e u h1 h2 => ?_⟩
  · rcases (hm u).1 hu with a | rfl
    · have := h.rng u a; omega
    · omega
  · have hp : (la ++ [v] ++ lb).Perm (v :: (la ++ lb)) := by
      rw [List.append_assoc]
      exact List.perm_middle
    rw [hp.nodup_iff, List.nodup_cons]
    exact ⟨fun a => by have := h.rng v a; omega, h.nd⟩
  · rw [hm]
    by_cases e2 : u = v
    · exact .inr e2
    · exact .inl (h.all e u h1 (by omega))
theorem SpI.putB {ex : Bool} {v : Int} {la lb : List Int} (h : SpI ex v la lb) (hv : 1 ≤ v) : SpI ex (v + 1) la (lb ++ [v]) := by
  have hm : ∀ u, u ∈ la ++ (lb ++ [v]) ↔ u ∈ la ++ lb ∨ u = v := fun u => by
    rw [← List.append_assoc, List.mem_append, List.mem_singleton]
  refine ⟨fun u hu => ?_, ?_, fun e u h1 h2 => ?_⟩
  · rcases (hm u).1 hu with a | rfl
    · have := h.rng u a; omega
    · omega
  · rw [← List.append_assoc]
    have hp : (la ++ lb ++ [v]).Perm (v :: (la ++ lb)) := List.perm_append_comm
    rw [hp.nodup_iff, List.nodup_cons]
    exact ⟨fun a => by have := h.rng v a; omega, h.nd⟩
  · rw [hm]
    by_cases e2 : u = v
    · exact .inr e2
    · exact .inl (h.all e u h1 (by omega))
theorem varsOk_nd (vars : Int) : ∀ (l met : List Int), (∀ u ∈ l, 1 ≤ u ∧ u ≤ vars) → (met ++ l).Nodup → varsOk vars met l = some (met ++ l)
  | [], met, _, _ => by simp [varsOk]
  | v :: r, met, h, hn => by
    have hv := h v (by simp)
    have hvm : v ∉ met := fun hm => by
      rw [List.nodup_append] at hn
      exact hn.2.2 v hm v (by simp) rfl
    have hk : okV vars met v = true := by
      unfold okV
      simp
      exact ⟨hv.1, hv.2, hvm⟩
    rw [varsOk, if_pos hk, varsOk_nd vars r (met ++ [v]) (fun u hu => h u (by simp [hu])) (by simpa using hn)]
    simp
theorem sp_check {ex : Bool} {la lb : List Int} (h : SpI ex 10 la lb) : blksBad 9 0 [] [(ex, la), (!ex, lb)] = none := by
  have h1 := varsOk_nd 9 la [] (fun u hu => by have := h.rng u (List.mem_append_left _ hu); omega) (by have := h.nd; rw [List.nodup_append] at this; simpa using this.1)
  have h2 := varsOk_nd 9 lb la (fun u hu => by have := h.rng u (List.mem_append_right _ hu); omega) h.nd
  simp only [List.nil_append] at h1
  simp [blksBad, h1, h2]
/-- The two blocks while they are made: cells of the blocks p (the formula), p + 1, p + 2. -/
def SpC (wr : World) (p : Nat) (ex ey : Bool) (va vb : Value) (vc : Value) : Prop :=
  wr.cell? ⟨p, 0, none⟩ = some (.slice none 0 0) ∧ wr.cell? ⟨p, 1, none⟩ = some (.int .i64 9) ∧ wr.cell? ⟨p, 2, none⟩ = some vc ∧ wr.cell? ⟨p + 1, 0, none⟩ = some (.bool ex) ∧ wr.cell? ⟨p + 1, 1, none⟩ = some va ∧ wr.cell? ⟨p + 1 + 1, 0, none⟩ = some (.bool ey) ∧ wr.cell? ⟨p + 1 + 1, 1, none⟩ = some vb ∧
    (∀ j, wr.frozen? ⟨p, j, none⟩ = false) ∧ (∀ j, wr.frozen? ⟨p + 1, j, none⟩ = false) ∧ (∀ j, wr.frozen? ⟨p + 1 + 1, j, none⟩ = false)
theorem SpC.keep {w w' : World} {p : Nat} {ex ey : Bool} {va vb vc : Value} (h : SpC w p ex ey va vb vc) (hb : Below (p + 3) w w') : SpC w' p ex ey va vb vc := by
  obtain ⟨z0, z1, z2, z3, z4, z5, z6, z7, z8, z9⟩ := h
  have c : ∀ b j u, b < p + 3 → w.cell? ⟨b, j, none⟩ = some u → w'.cell? ⟨b, j, none⟩ = some u := fun b j u hb' hc => (hb.cell (p := ⟨b, j, none⟩) hb').trans hc
  have f : ∀ b j, b < p + 3 → w.frozen? ⟨b, j, none⟩ = false → w'.frozen? ⟨b, j, none⟩ = false := fun b j hb' hc => (hb.frozen (p := ⟨b, j, none⟩) hb').trans hc
  exact ⟨c _ _ _ (by omega) z0, c _ _ _ (by omega) z1, c _ _ _ (by omega) z2, c _ _ _ (by omega) z3, c _ _ _ (by omega) z4, c _ _ _ (by omega) z5, c _ _ _ (by omega) z6, fun j => f _ _ (by omega) (z7 j), fun j => f _ _ (by omega) (z8 j), fun j => f _ _ (by omega) (z9 j)⟩
theorem SpC.setA {w : World} {p : Nat} {ex ey : Bool} {va vb vc : Value} (h : SpC w p ex ey va vb vc) (u : Value) : SpC (w.setCell ⟨p + 1, 1, none⟩ u) p ex ey u vb vc := by
  obtain ⟨z0, z1, z2, z3, z4, z5, z6, z7, z8, z9⟩ := h
  have o : ∀ b j, (b ≠ p + 1 ∨ j ≠ 1) → (w.setCell ⟨p + 1, 1, none⟩ u).cell? ⟨b, j, none⟩ = w.cell? ⟨b, j, none⟩ := fun b j h => World.cell?_setCell_other _ _ _ _ (fun e => by injection e with e1 e2; omega)
  exact ⟨(o _ _ (by omega)).trans z0, (o _ _ (by omega)).trans z1, (o _ _ (by omega)).trans z2, (o _ _ (by omega)).trans z3, World.cell?_setCell_same _ _ _ z4, (o _ _ (by omega)).trans z5, (o _ _ (by omega)).trans z6, fun j => (World.frozen?_setCell _ _ _ _).trans (z7 j), fun j => (World.frozen?_setCell _ _ _ _).trans (z8 j), fun j => (World.frozen?_setCell _ _ _ _).trans (z9 j)⟩
theorem SpC.setB {w : World} {p : Nat} {ex ey : Bool} {va vb vc : Value} (h : SpC w p ex ey va vb vc) (u : Value) : SpC (w.setCell ⟨p + 1 + 1, 1, none⟩ u) p ex ey va u vc := by
  obtain ⟨z0, z1, z2, z3, z4, z5, z6, z7, z8, z9⟩ := h
  have o : ∀ b j, (b ≠ p + 1 + 1 ∨ j ≠ 1) → (w.setCell ⟨p + 1 + 1, 1, none⟩ u).cell? ⟨b, j, none⟩ = w.cell? ⟨b, j, none⟩ := fun b j h => World.cell?_setCell_other _ _ _ _ (fun e => by injection e with e1 e2; omega)
  exact ⟨(o _ _ (by omega)).trans z0, (o _ _ (by omega)).trans z1, (o _ _ (by omega)).trans z2, (o _ _ (by omega)).trans z3, (o _ _ (by omega)).trans z4, (o _ _ (by omega)).trans z5, World.cell?_setCell_same _ _ _ z6, fun j => (World.frozen?_setCell _ _ _ _).trans (z7 j), fun j => (World.frozen?_setCell _ _ _ _).trans (z8 j), fun j => (World.frozen?_setCell _ _ _ _).trans (z9 j)⟩
/-- The two rows. -/
structure SpR (w : World) (p : Nat) (va vb : Value) (la lb : List Int) : Prop where
  a : w.ownsRow (p + 3) 3 1 va la.length (la.map (Value.int .i64))
  b : w.ownsRow (p + 3) 3 1 vb lb.length (lb.map (Value.int .i64))
  ne : ∀ g, va.ownBlock = some g → vb.ownBlock ≠ some g
theorem SpR.putA {w w' : World} {p : Nat} {va vb u : Value} {la lb : List Int} {y : Int} (h : SpR w p va vb la lb) (ha : App (p + 3) w w' va u) (ho : w'.ownsRow (p + 3) 3 1 u (la.length + 1) ((la ++ [y]).map (Value.int .i64))) (j : Nat) (x : Value) (q : Nat) (hq : q < p + 3) : SpR (w'.setCell ⟨q, j, none⟩ x) p u vb (la ++ [y]) lb := by
  have hb := ha.own h.b (by
    cases e : vb.ownBlock with
    | none => exact .inl rfl
    | some g => exact .inr fun e' => h.ne g e'.symm e)
  refine ⟨by rw [List.length_append]; exact ownsRow_setCell_below ho (by simpa using hq) _, ownsRow_setCell_below hb (by simpa using hq) _, fun g e e' => ?_⟩
  rcases ha.blk with e1 | ⟨q', e1, hq'⟩
  · exact h.ne g (by rw [← e1]; exact e) e'
  · have := own_ltG h.b e'
    rw [e1] at e
    have := Option.some.inj e
    omega
theorem SpR.putB {w w' : World} {p : Nat} {va vb u : Value} {la lb : List Int} {y : Int} (h : SpR w p va vb la lb) (ha : App (p + 3) w w' vb u) (ho : w'.ownsRow (p + 3) 3 1 u (lb.length + 1) ((lb ++ [y]).map (Value.int .i64))) (j : Nat) (x : Value) (q : Nat) (hq : q < p + 3) : SpR (w'.setCell ⟨q, j, none⟩ x) p va u la (lb ++ [y]) := by
  have hb := ha.own h.a (by
    cases e : va.ownBlock with
    | none => exact .inl rfl
    | some g => exact .inr fun e' => h.ne g e e'.symm)
  refine ⟨ownsRow_setCell_below hb (by simpa using hq) _, by rw [List.length_append]; exact ownsRow_setCell_below ho (by simpa using hq) _, fun g e e' => ?_⟩
  rcases ha.blk with e1 | ⟨q', e1, hq'⟩
  · exact h.ne g e (by rw [← e1]; exact e')
  · have := own_ltG h.a e
    rw [e1] at e'
    have := Option.some.inj e'
    omega

/-- The formula handed back: the blocks' slice laid, stored, the whole copied to the result's place. -/
def formW (wr : World) (p r0 : Nat) (ex ey : Bool) (va vb vc : Value) : World :=
  ((((wr.alloc (.cells #[.bool ex, va, .bool ey, vb] 78)).setCell ⟨p, 0, none⟩ (.slice (some ⟨wr.heap.size, 0, none⟩) 2 2)).setCell ⟨r0, 0, none⟩ (.slice (some ⟨wr.heap.size, 0, none⟩) 2 2)).setCell ⟨r0, 1, none⟩ (.int .i64 9)).setCell ⟨r0, 2, none⟩ vc
theorem form_end {w1 wr : World} {p r0 : Nat} {ex ey : Bool} {va vb vc u0 u1 u2 : Value} {la lb : List Int} {xss : List (List Int)} (hp : w1.heap.size = p) (hr : r0 < p) (hC : CRow w1 (r0 + 1) vc xss) (hB : Below p w1 wr) (hR : SpR wr p va vb la lb) (hs : p + 3 ≤ wr.heap.size)
    (x0 : wr.cell? ⟨r0, 0, none⟩ = some u0) (x1 : wr.cell? ⟨r0, 1, none⟩ = some u1) (x2 : wr.cell? ⟨r0, 2, none⟩ = some u2) :
    BRowsAt (formW wr p r0 ex ey va vb vc) (some ⟨wr.heap.size, 0, none⟩) 2 [(ex, la), (ey, lb)] ∧ CRow (formW wr p r0 ex ey va vb vc) (r0 + 1) vc xss ∧
      ((formW wr p r0 ex ey va vb vc).cell? ⟨r0, 0, none⟩ = some (.slice (some ⟨wr.heap.size, 0, none⟩) 2 2) ∧ (formW wr p r0 ex ey va vb vc).cell? ⟨r0, 1, none⟩ = some (.int .i64 9) ∧ (formW wr p r0 ex ey va vb vc).cell? ⟨r0, 2, none⟩ = some vc) ∧ Below r0 w1 (formW wr p r0 ex ey va vb vc) := by
  have hA : Below wr.heap.size wr (wr.alloc (.cells #[.bool ex, va, .bool ey, vb] 78)) := (Below.refl _ _).alloc (Nat.le_refl _) _
  have hA2 : Below p w1 (wr.alloc (.cells #[.bool ex, va, .bool ey, vb] 78)) := hB.alloc (by omega) _
  have o : ∀ (W : World) (b j b' j' : Nat) (v : Value), (b ≠ b' ∨ j ≠ j') → (W.setCell ⟨b, j, none⟩ v).cell? ⟨b', j', none⟩ = W.cell? ⟨b', j', none⟩ := fun W b j b' j' v h => World.cell?_setCell_other _ _ _ _ (fun e => by injection e with e1 e2; omega)
  have hoth : ∀ b j, b ≠ p → b ≠ r0 → (formW wr p r0 ex ey va vb vc).cell? ⟨b, j, none⟩ = (wr.alloc (.cells #[.bool ex, va, .bool ey, vb] 78)).cell? ⟨b, j, none⟩ := fun b j h1 h2 => by
    unfold formW
    rw [o _ r0 2 b j _ (.inl (Ne.symm h2)), o _ r0 1 b j _ (.inl (Ne.symm h2)), o _ r0 0 b j _ (.inl (Ne.symm h2)), o _ p 0 b j _ (.inl (Ne.symm h1))]
  have hrow : ∀ {v : Value} {l : List Int}, wr.ownsRow (p + 3) 3 1 v l.length (l.map (Value.int .i64)) → Row (formW wr p r0 ex ey va vb vc) v l := fun {v l} h =>
    own_row (ownsRow_setCell_below (ownsRow_setCell_below (ownsRow_setCell_below (ownsRow_setCell_below (own_keep h hA) (by show p < p + 3; omega) _) (by show r0 < p + 3; omega) _) (by show r0 < p + 3; omega) _) (by show r0 < p + 3; omega) _)
  have hk : ∀ j u, (#[Value.bool ex, va, .bool ey, vb] : Array Value)[j]? = some u → (formW wr p r0 ex ey va vb vc).cell? ⟨wr.heap.size, j, none⟩ = some u := fun j u h => by
    rw [hoth _ _ (by omega) (by omega), World.cell?_alloc_at _ _ _ _ rfl]
    exact h
  have hlt : wr.heap.size < (formW wr p r0 ex ey va vb vc).heap.size := by simp [formW]
  refine ⟨⟨Nat.le_refl _, by unfold maxLen; omega, .inr ⟨_, 0, rfl, hlt, fun i hi => ?_⟩⟩, ?_, ⟨?_, ?_, ?_⟩, ?_⟩
  · match i, hi with
    | 0, _ => exact ⟨hk 0 _ rfl, va, hk 1 _ rfl, hrow hR.a⟩
    | 1, _ => exact ⟨hk 2 _ rfl, vb, hk 3 _ rfl, hrow hR.b⟩
  · have h1 : CRow ((wr.alloc (.cells #[.bool ex, va, .bool ey, vb] 78)).setCell ⟨p, 0, none⟩ (.slice (some ⟨wr.heap.size, 0, none⟩) 2 2)) (r0 + 1) vc xss := hC.keep (by rw [hp]; exact hA2.setCell (Nat.le_refl p) _)
    exact ((h1.set _ _ _ (Nat.lt_succ_self _)).set _ _ _ (Nat.lt_succ_self _)).set _ _ _ (Nat.lt_succ_self _)
  · unfold formW
    rw [o _ r0 2 r0 0 _ (.inr (by decide)), o _ r0 1 r0 0 _ (.inr (by decide))]
    exact World.cell?_setCell_same _ _ _ (u := u0) (by rw [o _ p 0 r0 0 _ (.inl (by omega))]; exact (hA.cell (p := ⟨r0, 0, none⟩) (World.block_lt_of_cell? _ _ x0)).trans x0)
  · unfold formW
    rw [o _ r0 2 r0 1 _ (.inr (by decide))]
    exact World.cell?_setCell_same _ _ _ (u := u1) (by rw [o _ r0 0 r0 1 _ (.inr (by decide)), o _ p 0 r0 1 _ (.inl (by omega))]; exact (hA.cell (p := ⟨r0, 1, none⟩) (World.block_lt_of_cell? _ _ x1)).trans x1)
  · unfold formW
    exact World.cell?_setCell_same _ _ _ (u := u2) (by rw [o _ r0 1 r0 2 _ (.inr (by decide)), o _ r0 0 r0 2 _ (.inr (by decide)), o _ p 0 r0 2 _ (.inl (by omega))]; exact (hA.cell (p := ⟨r0, 2, none⟩) (World.block_lt_of_cell? _ _ x2)).trans x2)
  · exact ((((hA2.mono (Nat.le_of_lt hr)).setCell (show r0 ≤ p by omega) _).setCell (Nat.le_refl r0) _).setCell (Nat.le_refl r0) _).setCell (Nat.le_refl r0) _
theorem form_ret (W : World) (q : Nat) (v0 v1 v2 : Value) (tmps : Array Value) (ht : tmps.getD 10 undef = .pointer (some ⟨q, 0, none⟩)) (h : W.cell? ⟨q, 0, none⟩ = some v0 ∧ W.cell? ⟨q, 1, none⟩ = some v1 ∧ W.cell? ⟨q, 2, none⟩ = some v2) :
    (results Tryd.f12 tmps).run Tryd.prog W = .ok (.agg #[v0, v1, v2]) W := by
  obtain ⟨h0, h1, h2⟩ := h
  rw [Array.getD_eq_getD_getElem?] at ht
  simp [results, Tryd.results12, go_sem, ht, h0, h1, h2]

/-- What holds before the variable v. -/
def SpRel (w0 : World) (r p : Nat) (ex ey : Bool) (vc i : Value) (wr : World) : Prop :=
  ∃ (v : Nat) (la lb : List Int) (va vb : Value), 1 ≤ v ∧ v ≤ 10 ∧ i = .int .i64 v ∧ SpR wr p va vb la lb ∧ SpC wr p ex ey va vb vc ∧ Below r w0 wr ∧ p + 3 ≤ wr.heap.size ∧ SpI ex v la lb ∧ la.length + lb.length < v

set_option maxHeartbeats 4000000 in
set_option maxRecDepth 100000 in
theorem makeForm_true (a : Option Addr) (c : Nat) (cs : List Int) (fi : Nat) (fr : Nat) (w : World) (hv : RowAt w a c cs) (hcs : ∀ y ∈ cs, -9223372036854775808 ≤ y ∧ y ≤ 9223372036854775807) (hn : cs.length ≤ 200) :
    Calls Tryd.prog 12 #[.slice a cs.length c, .int .i64 9, .int .i64 (fi : Int), .bool true, .int .i64 (fr : Int)] w fun e w' => (∃ q d la lb ac cc xss, e = .returned (.agg #[.slice q 2 d, .int .i64 9, .slice ac (List.length xss) cc]) ∧ BRowsAt w' q d [(true, la), (false, lb)] ∧ RowsAt w' ac cc xss ∧ SpI true 10 la lb ∧ la.length + lb.length ≤ 9 ∧
      (∀ c ∈ xss, ∀ l ∈ c, l ≠ 0 ∧ isF l 9 = true) ∧ (xss.map List.length).sum ≤ cs.length ∧ xss.length ≤ cs.length) ∧ Below w.heap.size w w' := by
  have HM := Lib.hid (fun W (hW : Below w.heap.size w W) => makeCNF_any a c cs 9 W (by omega) (by omega) (hv.keep hW) hcs hn)
  have HB := Lib.hid (fun o => show Below w.heap.size w (w.alloc o) from (Below.refl _ w).alloc (Nat.le_refl _) _)
  have HBX : Hid (∀ W, Below (w.heap.size + 1) (w.alloc (.cells #[.slice none 0 0, .int .i64 0, .slice none 0 0] 32)) W → Below w.heap.size w W ∧ W.cell? ⟨w.heap.size, 0, none⟩ = some (.slice none 0 0) ∧ W.cell? ⟨w.heap.size, 1, none⟩ = some (.int .i64 0) ∧ W.cell? ⟨w.heap.size, 2, none⟩ = some (.slice none 0 0) ∧ ∀ j, W.frozen? ⟨w.heap.size, j, none⟩ = false) := fun W h0 => by
    have h : Below (w.alloc (.cells #[.slice none 0 0, .int .i64 0, .slice none 0 0] 32)).heap.size (w.alloc (.cells #[.slice none 0 0, .int .i64 0, .slice none 0 0] 32)) W := by simpa using h0
    obtain ⟨h1, h2, h3⟩ := cells3 w W _ _ _ _ h
    obtain ⟨_, hf⟩ := bcell h
    exact ⟨((Below.refl _ w).alloc (Nat.le_refl _) _).trans (h.mono (by simp)), h1, h2, h3, fun j => by rw [hf _ _ (by simp), World.frozen?_alloc_at _ _ _ _ (by simp)]⟩
  clear hv hcs
  generalize cs.length = nc at *
  go_enter Tryd.func12, Tryd.ntmps12
  go_wp2_with (go_at_call 16; refine (HM.out _ (HB.out _)).mono ?_; rintro e w1 ⟨⟨v0, xss, rfl, hC, h1, h2, h3⟩, hb1⟩; obtain ⟨a9, c9, rfl, _⟩ := hC.rows)
  have HCX := Lib.hid (And.intro hC (And.intro h1 (And.intro h2 h3)))
  have HB1 := Lib.hid hb1
  have hs1 : w.heap.size + 1 ≤ w1.heap.size := by have := hb1.size; simpa using this
  have HBW := Lib.hid ((HB.out (.cells #[.slice none 0 0, .int .i64 0, .slice none 0 0] 32)).trans (hb1.mono (by simp)))
  clear hC h1 h2 h3 hb1
  generalize hp : w1.heap.size = p at *
  have hsz3 : (((w1.alloc (.cells #[.slice none 0 0, .int .i64 9, .slice a9 xss.length c9] 32)).alloc (.cells #[.bool true, .slice none 0 0] 78)).alloc (.cells #[.bool false, .slice none 0 0] 78)).heap.size = p + 3 := by simp [hp]
  have hC0 : SpC (((w1.alloc (.cells #[.slice none 0 0, .int .i64 9, .slice a9 xss.length c9] 32)).alloc (.cells #[.bool true, .slice none 0 0] 78)).alloc (.cells #[.bool false, .slice none 0 0] 78)) p true false (.slice none 0 0) (.slice none 0 0) (.slice a9 xss.length c9) := by
    have e1 : Below (w1.alloc (.cells #[.slice none 0 0, .int .i64 9, .slice a9 xss.length c9] 32)).heap.size (w1.alloc (.cells #[.slice none 0 0, .int .i64 9, .slice a9 xss.length c9] 32)) (((w1.alloc (.cells #[.slice none 0 0, .int .i64 9, .slice a9 xss.length c9] 32)).alloc (.cells #[.bool true, .slice none 0 0] 78)).alloc (.cells #[.bool false, .slice none 0 0] 78)) := ((Below.refl _ _).alloc (Nat.le_refl _) _).alloc (by simp) _
    have e2 : Below ((w1.alloc (.cells #[.slice none 0 0, .int .i64 9, .slice a9 xss.length c9] 32)).alloc (.cells #[.bool true, .slice none 0 0] 78)).heap.size ((w1.alloc (.cells #[.slice none 0 0, .int .i64 9, .slice a9 xss.length c9] 32)).alloc (.cells #[.bool true, .slice none 0 0] 78)) (((w1.alloc (.cells #[.slice none 0 0, .int .i64 9, .slice a9 xss.length c9] 32)).alloc (.cells #[.bool true, .slice none 0 0] 78)).alloc (.cells #[.bool false, .slice none 0 0] 78)) := (Below.refl _ _).alloc (Nat.le_refl _) _
    obtain ⟨x0, x1, x2⟩ := cells3 w1 _ _ _ _ _ e1
    obtain ⟨x3, x4⟩ := cells2 _ _ _ _ _ e2
    obtain ⟨x5, x6⟩ := cells2 _ _ _ _ _ (Below.refl (((w1.alloc (.cells #[.slice none 0 0, .int .i64 9, .slice a9 xss.length c9] 32)).alloc (.cells #[.bool true, .slice none 0 0] 78)).alloc (.cells #[.bool false, .slice none 0 0] 78)).heap.size (((w1.alloc (.cells #[.slice none 0 0, .int .i64 9, .slice a9 xss.length c9] 32)).alloc (.cells #[.bool true, .slice none 0 0] 78)).alloc (.cells #[.bool false, .slice none 0 0] 78)))
    obtain ⟨_, f1⟩ := bcell e1
    obtain ⟨_, f2⟩ := bcell e2
    rw [hp] at x0 x1 x2
    have s1 : (w1.alloc (.cells #[.slice none 0 0, .int .i64 9, .slice a9 xss.length c9] 32)).heap.size = p + 1 := by simp [hp]
    have s2 : ((w1.alloc (.cells #[.slice none 0 0, .int .i64 9, .slice a9 xss.length c9] 32)).alloc (.cells #[.bool true, .slice none 0 0] 78)).heap.size = p + 1 + 1 := by simp [hp]
    rw [s1] at x3 x4
    rw [s2] at x5 x6
    exact ⟨x0, x1, x2, x3, x4, x5, x6, fun j => (f1 p j (by simp [hp])).trans (World.frozen?_alloc_at _ _ _ _ (by simp [hp])), fun j => (f2 (p + 1) j (by simp [hp])).trans (World.frozen?_alloc_at _ _ _ _ (by simp [hp])), fun j => World.frozen?_alloc_at _ _ _ _ (by simp [hp])⟩
  have HC0 := Lib.hid hC0
  have HBP : Hid (Below p w1 (((w1.alloc (.cells #[.slice none 0 0, .int .i64 9, .slice a9 xss.length c9] 32)).alloc (.cells #[.bool true, .slice none 0 0] 78)).alloc (.cells #[.bool false, .slice none 0 0] 78))) := (((Below.refl _ w1).alloc (by rw [hp]; exact Nat.le_refl _) _).alloc (by simp [hp]) _).alloc (by simp [hp]; omega) _
  clear hC0
  generalize (((w1.alloc (.cells #[.slice none 0 0, .int .i64 9, .slice a9 xss.length c9] 32)).alloc (.cells #[.bool true, .slice none 0 0] 78)).alloc (.cells #[.bool false, .slice none 0 0] 78)) = W3 at *
  go_loopw [14] (fun i wr => SpRel w1 p p true false (.slice a9 xss.length c9) i wr) (fun i _ => 10 - (intOf i).toNat)
  case atStart => exact ⟨1, [], [], _, _, by omega, by omega, rfl, ⟨⟨rfl, .inl ⟨rfl, rfl⟩⟩, ⟨rfl, .inl ⟨rfl, rfl⟩⟩, fun g e => (by cases e)⟩, HC0.out, HBP.out, by omega, SpI.start true, by simp⟩
  case round =>
    obtain ⟨v, la, lb, va, vb, hv1, hv10, rfl, hR, hC, hbr, hsz, hI, hll⟩ := hrel
    obtain ⟨z0, z1, z2, z3, z4, z5, z6, z7, z8, z9⟩ := hC
    have HC := Lib.hid (show SpC wr p true false va vb (.slice a9 xss.length c9) from ⟨z0, z1, z2, z3, z4, z5, z6, z7, z8, z9⟩)
    have HR := Lib.hid hR
    have HI := Lib.hid hI
    have HBR := Lib.hid hbr
    obtain ⟨aa, ca, rfl⟩ := own_shape3 hR.a
    obtain ⟨ab, cb, rfl⟩ := own_shape3 hR.b
    clear hR hI hbr
    by_cases hlt : v ≤ 9
    · have hd : decide ((v : Int) ≤ 9) = true := decide_eq_true (by omega)
      have hd' : decide (v ≤ 9) = true := decide_eq_true hlt
      by_cases hs : v ≤ fr
      · have hd1 : decide ((v : Int) ≤ (fr : Int)) = true := decide_eq_true (by omega)
        have hd2 : decide (v ≤ fr) = true := decide_eq_true hs
        go_wp2_with fail
        go_roundw
        case measure => simp [intOf]; omega
        case rel => unfold SpRel; exact ⟨v + 1, la, lb, _, _, by omega, by omega, by go_num, HR.out, HC.out, HBR.out, hsz, (HI.out.skip : SpI true ((v : Int) + 1) _ _), by omega⟩
      · have hd1 : decide ((v : Int) ≤ (fr : Int)) = false := decide_eq_false (by omega)
        have hd2 : decide (v ≤ fr) = false := decide_eq_false hs
        clear hs
        by_cases hf : v ≤ fi
        · have hd3 : decide ((v : Int) ≤ (fi : Int)) = true := decide_eq_true (by omega)
          have hd4 : decide (v ≤ fi) = true := decide_eq_true hf
          clear hf
          go_wp2_with (at_builtin; refine wpList_app1 rfl _ _ rfl wr (p + 3) _ _ la (v : Int) HR.out.a (by omega) (by omega) rfl rfl ?_; intro v6 w6 hown6 hap6; obtain ⟨z0, z1, z2, z3, z4, z5, z6, z7, z8, z9⟩ := HC.out.keep hap6.below; have hs6 := hap6.below.size; have HR6 := Lib.hid (HR.out.putA hap6 hown6 1 v6 (p + 1) (by omega)); have HC6 := Lib.hid ((HC.out.keep hap6.below).setA v6); have HB6 := Lib.hid (show Below p w1 (w6.setCell ⟨p + 1, 1, none⟩ v6) from (HBR.out.trans (hap6.below.mono (by omega))).setCell (by show p ≤ p + 1; omega) v6); obtain ⟨a6, c6, rfl⟩ := own_shape3 hown6)
          go_roundw
          case measure => simp [intOf]; omega
          case rel => unfold SpRel; exact ⟨v + 1, la ++ [(v : Int)], lb, _, _, by omega, by omega, by go_num, HR6.out, HC6.out, HB6.out, by simp; omega, (HI.out.putA (by omega) : SpI _ ((v : Int) + 1) _ _), by simp; omega⟩
        · have hd3 : decide ((v : Int) ≤ (fi : Int)) = false := decide_eq_false (by omega)
          have hd4 : decide (v ≤ fi) = false := decide_eq_false hf
          clear hf
          go_wp2_with (at_builtin; refine wpList_app1 rfl _ _ rfl wr (p + 3) _ _ lb (v : Int) HR.out.b (by omega) (by omega) rfl rfl ?_; intro v6 w6 hown6 hap6; obtain ⟨z0, z1, z2, z3, z4, z5, z6, z7, z8, z9⟩ := HC.out.keep hap6.below; have hs6 := hap6.below.size; have HR6 := Lib.hid (HR.out.putB hap6 hown6 1 v6 (p + 1 + 1) (by omega)); have HC6 := Lib.hid ((HC.out.keep hap6.below).setB v6); have HB6 := Lib.hid (show Below p w1 (w6.setCell ⟨p + 1 + 1, 1, none⟩ v6) from (HBR.out.trans (hap6.below.mono (by omega))).setCell (by show p ≤ p + 1 + 1; omega) v6); obtain ⟨a6, c6, rfl⟩ := own_shape3 hown6)
          go_roundw
          case measure => simp [intOf]; omega
          case rel => unfold SpRel; exact ⟨v + 1, la, lb ++ [(v : Int)], _, _, by omega, by omega, by go_num, HR6.out, HC6.out, HB6.out, by simp; omega, (HI.out.putB (by omega) : SpI _ ((v : Int) + 1) _ _), by simp; omega⟩
    · have hv9 : v = 10 := by omega
      subst hv9
      have hd : decide ((10 : Int) ≤ 9) = false := by decide
      have zz := fun o => HC.out.keep ((Below.refl (p + 3) wr).alloc hsz o)
      have y0 := fun o => (zz o).1
      have y1 := fun o => (zz o).2.1
      have y2 := fun o => (zz o).2.2.1
      have y3 := fun o => (zz o).2.2.2.2.2.2.2.1 0
      have HBF := Lib.hid ((HB1.out.mono (show w.heap.size + 1 ≤ _ by simp)).trans (HBR.out.mono hs1))
      have xx := fun o => (HBX.out _ (HBF.out.alloc (by omega) o)).2
      have x0 := fun o => (xx o).1
      have x1 := fun o => (xx o).2.1
      have x2 := fun o => (xx o).2.2.1
      have x3 := fun o => (xx o).2.2.2 0
      have x4 := fun o => (xx o).2.2.2 1
      have x5 := fun o => (xx o).2.2.2 2
      have hne : ¬ w.heap.size = p := by omega
      have hne' : ¬ p = w.heap.size := by omega
      clear zz xx
      go_wp2_with fail
      obtain ⟨g1, g2, g3, g4⟩ := form_end (ex := true) (ey := false) hp hs1 (by simpa using HCX.out.1) HBR.out HR.out hsz (HBX.out _ HBF.out).2.1 (HBX.out _ HBF.out).2.2.1 (HBX.out _ HBF.out).2.2.2.1
      obtain ⟨ac, cc, e9, g5⟩ := g2.rows
      injection e9 with e1 _ e3
      subst e1; subst e3
      exact bodyPost_ret (v := .agg #[.slice (some ⟨wr.heap.size, 0, none⟩) 2 2, .int .i64 9, .slice a9 xss.length c9]) (form_ret _ w.heap.size _ _ _ _ rfl g3) rfl ⟨⟨_, 2, la, lb, a9, c9, xss, rfl, g1, g5, by simpa using HI.out, by omega, HCX.out.2.1, HCX.out.2.2.1, HCX.out.2.2.2⟩, HBW.out.trans (g4.mono (Nat.le_refl _))⟩

set_option maxHeartbeats 4000000 in
set_option maxRecDepth 100000 in
theorem makeForm_false (a : Option Addr) (c : Nat) (cs : List Int) (fi : Nat) (fr : Nat) (w : World) (hv : RowAt w a c cs) (hcs : ∀ y ∈ cs, -9223372036854775808 ≤ y ∧ y ≤ 9223372036854775807) (hn : cs.length ≤ 200) :
    Calls Tryd.prog 12 #[.slice a cs.length c, .int .i64 9, .int .i64 (fi : Int), .bool false, .int .i64 (fr : Int)] w fun e w' => (∃ q d la lb ac cc xss, e = .returned (.agg #[.slice q 2 d, .int .i64 9, .slice ac (List.length xss) cc]) ∧ BRowsAt w' q d [(false, la), (true, lb)] ∧ RowsAt w' ac cc xss ∧ SpI false 10 la lb ∧ la.length + lb.length ≤ 9 ∧
      (∀ c ∈ xss, ∀ l ∈ c, l ≠ 0 ∧ isF l 9 = true) ∧ (xss.map List.length).sum ≤ cs.length ∧ xss.length ≤ cs.length) ∧ Below w.heap.size w w' := by
  have HM := Lib.hid (fun W (hW : Below w.heap.size w W) => makeCNF_any a c cs 9 W (by omega) (by omega) (hv.keep hW) hcs hn)
  have HB := Lib.hid (fun o => show Below w.heap.size w (w.alloc o) from (Below.refl _ w).alloc (Nat.le_refl _) _)
  have HBX : Hid (∀ W, Below (w.heap.size + 1) (w.alloc (.cells #[.slice none 0 0, .int .i64 0, .slice none 0 0] 32)) W → Below w.heap.size w W ∧ W.cell? ⟨w.heap.size, 0, none⟩ = some (.slice none 0 0) ∧ W.cell? ⟨w.heap.size, 1, none⟩ = some (.int .i64 0) ∧ W.cell? ⟨w.heap.size, 2, none⟩ = some (.slice none 0 0) ∧ ∀ j, W.frozen? ⟨w.heap.size, j, none⟩ = false) := fun W h0 => by
    have h : Below (w.alloc (.cells #[.slice none 0 0, .int .i64 0, .slice none 0 0] 32)).heap.size (w.alloc (.cells #[.slice none 0 0, .int .i64 0, .slice none 0 0] 32)) W := by simpa using h0
    obtain ⟨h1, h2, h3⟩ := cells3 w W _ _ _ _ h
    obtain ⟨_, hf⟩ := bcell h
    exact ⟨((Below.refl _ w).alloc (Nat.le_refl _) _).trans (h.mono (by simp)), h1, h2, h3, fun j => by rw [hf _ _ (by simp), World.frozen?_alloc_at _ _ _ _ (by simp)]⟩
  clear hv hcs
  generalize cs.length = nc at *
  go_enter Tryd.func12, Tryd.ntmps12
  go_wp2_with (go_at_call 16; refine (HM.out _ (HB.out _)).mono ?_; rintro e w1 ⟨⟨v0, xss, rfl, hC, h1, h2, h3⟩, hb1⟩; obtain ⟨a9, c9, rfl, _⟩ := hC.rows)
  have HCX := Lib.hid (And.intro hC (And.intro h1 (And.intro h2 h3)))
  have HB1 := Lib.hid hb1
  have hs1 : w.heap.size + 1 ≤ w1.heap.size := by have := hb1.size; simpa using this
  have HBW := Lib.hid ((HB.out (.cells #[.slice none 0 0, .int .i64 0, .slice none 0 0] 32)).trans (hb1.mono (by simp)))
  clear hC h1 h2 h3 hb1
  generalize hp : w1.heap.size = p at *
  have hsz3 : (((w1.alloc (.cells #[.slice none 0 0, .int .i64 9, .slice a9 xss.length c9] 32)).alloc (.cells #[.bool false, .slice none 0 0] 78)).alloc (.cells #[.bool true, .slice none 0 0] 78)).heap.size = p + 3 := by simp [hp]
  have hC0 : SpC (((w1.alloc (.cells #[.slice none 0 0, .int .i64 9, .slice a9 xss.length c9] 32)).alloc (.cells #[.bool false, .slice none 0 0] 78)).alloc (.cells #[.bool true, .slice none 0 0] 78)) p false true (.slice none 0 0) (.slice none 0 0) (.slice a9 xss.length c9) := by
    have e1 : Below (w1.alloc (.cells #[.slice none 0 0, .int .i64 9, .slice a9 xss.length c9] 32)).heap.size (w1.alloc (.cells #[.slice none 0 0, .int .i64 9, .slice a9 xss.length c9] 32)) (((w1.alloc (.cells #[.slice none 0 0, .int .i64 9, .slice a9 xss.length c9] 32)).alloc (.cells #[.bool false, .slice none 0 0] 78)).alloc (.cells #[.bool true, .slice none 0 0] 78)) := ((Below.refl _ _).alloc (Nat.le_refl _) _).alloc (by simp) _
    have e2 : Below ((w1.alloc (.cells #[.slice none 0 0, .int .i64 9, .slice a9 xss.length c9] 32)).alloc (.cells #[.bool false, .slice none 0 0] 78)).heap.size ((w1.alloc (.cells #[.slice none 0 0, .int .i64 9, .slice a9 xss.length c9] 32)).alloc (.cells #[.bool false, .slice none 0 0] 78)) (((w1.alloc (.cells #[.slice none 0 0, .int .i64 9, .slice a9 xss.length c9] 32)).alloc (.cells #[.bool false, .slice none 0 0] 78)).alloc (.cells #[.bool true, .slice none 0 0] 78)) := (Below.refl _ _).alloc (Nat.le_refl _) _
    obtain ⟨x0, x1, x2⟩ := cells3 w1 _ _ _ _ _ e1
    obtain ⟨x3, x4⟩ := cells2 _ _ _ _ _ e2
    obtain ⟨x5, x6⟩ := cells2 _ _ _ _ _ (Below.refl (((w1.alloc (.cells #[.slice none 0 0, .int .i64 9, .slice a9 xss.length c9] 32)).alloc (.cells #[.bool false, .slice none 0 0] 78)).alloc (.cells #[.bool true, .slice none 0 0] 78)).heap.size (((w1.alloc (.cells #[.slice none 0 0, .int .i64 9, .slice a9 xss.length c9] 32)).alloc (.cells #[.bool false, .slice none 0 0] 78)).alloc (.cells #[.bool true, .slice none 0 0] 78)))
    obtain ⟨_, f1⟩ := bcell e1
    obtain ⟨_, f2⟩ := bcell e2
    rw [hp] at x0 x1 x2
    have s1 : (w1.alloc (.cells #[.slice none 0 0, .int .i64 9, .slice a9 xss.length c9] 32)).heap.size = p + 1 := by simp [hp]
    have s2 : ((w1.alloc (.cells #[.slice none 0 0, .int .i64 9, .slice a9 xss.length c9] 32)).alloc (.cells #[.bool false, .slice none 0 0] 78)).heap.size = p + 1 + 1 := by simp [hp]
    rw [s1] at x3 x4
    rw [s2] at x5 x6
    exact ⟨x0, x1, x2, x3, x4, x5, x6, fun j => (f1 p j (by simp [hp])).trans (World.frozen?_alloc_at _ _ _ _ (by simp [hp])), fun j => (f2 (p + 1) j (by simp [hp])).trans (World.frozen?_alloc_at _ _ _ _ (by simp [hp])), fun j => World.frozen?_alloc_at _ _ _ _ (by simp [hp])⟩
  have HC0 := Lib.hid hC0
  have HBP : Hid (Below p w1 (((w1.alloc (.cells #[.slice none 0 0, .int .i64 9, .slice a9 xss.length c9] 32)).alloc (.cells #[.bool false, .slice none 0 0] 78)).alloc (.cells #[.bool true, .slice none 0 0] 78))) := (((Below.refl _ w1).alloc (by rw [hp]; exact Nat.le_refl _) _).alloc (by simp [hp]) _).alloc (by simp [hp]; omega) _
  clear hC0
  generalize (((w1.alloc (.cells #[.slice none 0 0, .int .i64 9, .slice a9 xss.length c9] 32)).alloc (.cells #[.bool false, .slice none 0 0] 78)).alloc (.cells #[.bool true, .slice none 0 0] 78)) = W3 at *
  go_loopw [14] (fun i wr => SpRel w1 p p false true (.slice a9 xss.length c9) i wr) (fun i _ => 10 - (intOf i).toNat)
  case atStart => exact ⟨1, [], [], _, _, by omega, by omega, rfl, ⟨⟨rfl, .inl ⟨rfl, rfl⟩⟩, ⟨rfl, .inl ⟨rfl, rfl⟩⟩, fun g e => (by cases e)⟩, HC0.out, HBP.out, by omega, SpI.start false, by simp⟩
  case round =>
    obtain ⟨v, la, lb, va, vb, hv1, hv10, rfl, hR, hC, hbr, hsz, hI, hll⟩ := hrel
    obtain ⟨z0, z1, z2, z3, z4, z5, z6, z7, z8, z9⟩ := hC
    have HC := Lib.hid (show SpC wr p false true va vb (.slice a9 xss.length c9) from ⟨z0, z1, z2, z3, z4, z5, z6, z7, z8, z9⟩)
    have HR := Lib.hid hR
    have HI := Lib.hid hI
    have HBR := Lib.hid hbr
    obtain ⟨aa, ca, rfl⟩ := own_shape3 hR.a
    obtain ⟨ab, cb, rfl⟩ := own_shape3 hR.b
    clear hR hI hbr
    by_cases hlt : v ≤ 9
    · have hd : decide ((v : Int) ≤ 9) = true := decide_eq_true (by omega)
      have hd' : decide (v ≤ 9) = true := decide_eq_true hlt
      · have _ := hlt
        by_cases hf : v ≤ fi
        · have hd3 : decide ((v : Int) ≤ (fi : Int)) = true := decide_eq_true (by omega)
          have hd4 : decide (v ≤ fi) = true := decide_eq_true hf
          clear hf
          go_wp2_with (at_builtin; refine wpList_app1 rfl _ _ rfl wr (p + 3) _ _ la (v : Int) HR.out.a (by omega) (by omega) rfl rfl ?_; intro v6 w6 hown6 hap6; obtain ⟨z0, z1, z2, z3, z4, z5, z6, z7, z8, z9⟩ := HC.out.keep hap6.below; have hs6 := hap6.below.size; have HR6 := Lib.hid (HR.out.putA hap6 hown6 1 v6 (p + 1) (by omega)); have HC6 := Lib.hid ((HC.out.keep hap6.below).setA v6); have HB6 := Lib.hid (show Below p w1 (w6.setCell ⟨p + 1, 1, none⟩ v6) from (HBR.out.trans (hap6.below.mono (by omega))).setCell (by show p ≤ p + 1; omega) v6); obtain ⟨a6, c6, rfl⟩ := own_shape3 hown6)
          go_roundw
          case measure => simp [intOf]; omega
          case rel => unfold SpRel; exact ⟨v + 1, la ++ [(v : Int)], lb, _, _, by omega, by omega, by go_num, HR6.out, HC6.out, HB6.out, by simp; omega, (HI.out.putA (by omega) : SpI _ ((v : Int) + 1) _ _), by simp; omega⟩
        · have hd3 : decide ((v : Int) ≤ (fi : Int)) = false := decide_eq_false (by omega)
          have hd4 : decide (v ≤ fi) = false := decide_eq_false hf
          clear hf
          go_wp2_with (at_builtin; refine wpList_app1 rfl _ _ rfl wr (p + 3) _ _ lb (v : Int) HR.out.b (by omega) (by omega) rfl rfl ?_; intro v6 w6 hown6 hap6; obtain ⟨z0, z1, z2, z3, z4, z5, z6, z7, z8, z9⟩ := HC.out.keep hap6.below; have hs6 := hap6.below.size; have HR6 := Lib.hid (HR.out.putB hap6 hown6 1 v6 (p + 1 + 1) (by omega)); have HC6 := Lib.hid ((HC.out.keep hap6.below).setB v6); have HB6 := Lib.hid (show Below p w1 (w6.setCell ⟨p + 1 + 1, 1, none⟩ v6) from (HBR.out.trans (hap6.below.mono (by omega))).setCell (by show p ≤ p + 1 + 1; omega) v6); obtain ⟨a6, c6, rfl⟩ := own_shape3 hown6)
          go_roundw
          case measure => simp [intOf]; omega
          case rel => unfold SpRel; exact ⟨v + 1, la, lb ++ [(v : Int)], _, _, by omega, by omega, by go_num, HR6.out, HC6.out, HB6.out, by simp; omega, (HI.out.putB (by omega) : SpI _ ((v : Int) + 1) _ _), by simp; omega⟩
    · have hv9 : v = 10 := by omega
      subst hv9
      have hd : decide ((10 : Int) ≤ 9) = false := by decide
      have zz := fun o => HC.out.keep ((Below.refl (p + 3) wr).alloc hsz o)
      have y0 := fun o => (zz o).1
      have y1 := fun o => (zz o).2.1
      have y2 := fun o => (zz o).2.2.1
      have y3 := fun o => (zz o).2.2.2.2.2.2.2.1 0
      have HBF := Lib.hid ((HB1.out.mono (show w.heap.size + 1 ≤ _ by simp)).trans (HBR.out.mono hs1))
      have xx := fun o => (HBX.out _ (HBF.out.alloc (by omega) o)).2
      have x0 := fun o => (xx o).1
      have x1 := fun o => (xx o).2.1
      have x2 := fun o => (xx o).2.2.1
      have x3 := fun o => (xx o).2.2.2 0
      have x4 := fun o => (xx o).2.2.2 1
      have x5 := fun o => (xx o).2.2.2 2
      have hne : ¬ w.heap.size = p := by omega
      have hne' : ¬ p = w.heap.size := by omega
      clear zz xx
      go_wp2_with fail
      obtain ⟨g1, g2, g3, g4⟩ := form_end (ex := false) (ey := true) hp hs1 (by simpa using HCX.out.1) HBR.out HR.out hsz (HBX.out _ HBF.out).2.1 (HBX.out _ HBF.out).2.2.1 (HBX.out _ HBF.out).2.2.2.1
      obtain ⟨ac, cc, e9, g5⟩ := g2.rows
      injection e9 with e1 _ e3
      subst e1; subst e3
      exact bodyPost_ret (v := .agg #[.slice (some ⟨wr.heap.size, 0, none⟩) 2 2, .int .i64 9, .slice a9 xss.length c9]) (form_ret _ w.heap.size _ _ _ _ rfl g3) rfl ⟨⟨_, 2, la, lb, a9, c9, xss, rfl, g1, g5, by simpa using HI.out, by omega, HCX.out.2.1, HCX.out.2.2.1, HCX.out.2.2.2⟩, HBW.out.trans (g4.mono (Nat.le_refl _))⟩

end Go.Proofs.YtjpchjbpolcndaaDoor
