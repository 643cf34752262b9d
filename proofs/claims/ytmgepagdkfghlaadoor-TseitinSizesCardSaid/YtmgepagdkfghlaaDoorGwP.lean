/- What a graph's literals are worth, as plain data: each node's worth ('nodesV'), a literal's ('worthV'); And is worth and; the other gates, clauses as a circuit, a circuit built anew keep worth. Plain facts on ints and lists; no conditions beyond those typed. -/
import Derived.Test.YtmgepagdkfghlaaDoorGrB
namespace Go.Proofs.YtmgepagdkfghlaaDoor

def oddB (l : Int) : Bool := decide (l % 2 = 1)
def worthV (v : List Bool) (l : Int) : Bool := v.getD (l / 2).toNat false != oddB l
def inV (n : Nat) (ins : List Bool) : List Bool := false :: (List.range n).map fun i => ins.getD i false
def stepV (v : List Bool) (x : Int × Int) : List Bool := v ++ [worthV v x.1 && worthV v x.2]
def nodesV (n : Nat) (ps : List (Int × Int)) (ins : List Bool) : List Bool := ps.foldl stepV (inV n ins)
def evalV (n : Nat) (ps : List (Int × Int)) (os : List Int) (ins : List Bool) : List Bool := os.map (worthV (nodesV n ps ins))
def Gr.val (g : Gr) (ins : List Bool) (l : Int) : Bool := worthV (nodesV g.n g.ands ins) l
def Gr.Ok (g : Gr) : Prop := ∀ k, k < g.ands.length → okP g.n k (g.ands.getD k (0, 0)) = true

theorem inV_len (n : Nat) (ins : List Bool) : (inV n ins).length = n + 1 := by simp [inV]
theorem nodesV_len (n : Nat) (ps : List (Int × Int)) (ins : List Bool) : (nodesV n ps ins).length = n + 1 + ps.length := by
  have : ∀ (ps : List (Int × Int)) (v : List Bool), (ps.foldl stepV v).length = v.length + ps.length := by
    intro ps
    induction ps with
    | nil => intro v; simp
    | cons x ps ih => intro v; rw [List.foldl_cons, ih]; simp [stepV]; omega
  rw [nodesV, this, inV_len]
theorem nodesV_snoc (n : Nat) (ps : List (Int × Int)) (x : Int × Int) (ins : List Bool) : nodesV n (ps ++ [x]) ins = nodesV n ps ins ++ [worthV (nodesV n ps ins) x.1 && worthV (nodesV n ps ins) x.2] := by
  unfold nodesV; rw [List.foldl_append]; rfl
theorem nodesV_more (n : Nat) (ps qs : List (Int × Int)) (ins : List Bool) : ∃ t, nodesV n (ps ++ qs) ins = nodesV n ps ins ++ t := by
  have : ∀ (qs : List (Int × Int)) (v : List Bool), ∃ t, qs.foldl stepV v = v ++ t := by
    intro qs
    induction qs with
    | nil => intro v; exact ⟨[], by simp⟩
    | cons x qs ih =>
      intro v
      obtain ⟨t, h⟩ := ih (stepV v x)
      exact ⟨[worthV v x.1 && worthV v x.2] ++ t, by rw [List.foldl_cons, h]; simp [stepV]⟩
  obtain ⟨t, h⟩ := this qs (nodesV n ps ins)
  exact ⟨t, by rw [← h]; unfold nodesV; rw [List.foldl_append]⟩
theorem worthV_app (v t : List Bool) (l : Int) (h : (l / 2).toNat < v.length) : worthV (v ++ t) l = worthV v l := by
  unfold worthV
  rw [show (v ++ t).getD (l / 2).toNat false = v.getD (l / 2).toNat false by simp [List.getD, List.getElem?_append_left h]]
theorem worthV_not (v : List Bool) (l : Int) (h : 0 ≤ l) : worthV v (notI l) = !worthV v l := by
  have hn := notI_of l h
  unfold worthV
  rw [hn.2.2.1]
  have e : oddB (notI l) = !oddB l := by
    unfold oddB notI
    by_cases h2 : l % 2 = 0
    · rw [if_pos h2, decide_eq_true (show (l + 1) % 2 = 1 by omega), decide_eq_false (show ¬ l % 2 = 1 by omega)]; rfl
    · rw [if_neg h2, decide_eq_false (show ¬ (l - 1) % 2 = 1 by omega), decide_eq_true (show l % 2 = 1 by omega)]; rfl
  rw [e]
  cases v.getD (l / 2).toNat false <;> cases oddB l <;> rfl

/-- A graph that has grown. -/
def Ext (g g' : Gr) : Prop := g'.n = g.n ∧ ∃ t, g'.ands = g.ands ++ t
theorem Ext.refl (g : Gr) : Ext g g := ⟨rfl, [], by simp⟩
theorem Ext.trans {a b c : Gr} (h : Ext a b) (k : Ext b c) : Ext a c := by
  obtain ⟨h1, t, h2⟩ := h
  obtain ⟨k1, u, k2⟩ := k
  exact ⟨k1.trans h1, t ++ u, by rw [k2, h2]; simp⟩
theorem Ext.len {g g' : Gr} (h : Ext g g') : g.len ≤ g'.len := by
  obtain ⟨h1, t, h2⟩ := h
  unfold Gr.len; rw [h1, h2]; simp
theorem Ext.val {g g' : Gr} (h : Ext g g') (ins : List Bool) (l : Int) (hl : g.isB l = true) : g'.val ins l = g.val ins l := by
  obtain ⟨h1, t, h2⟩ := h
  obtain ⟨u, hu⟩ := nodesV_more g.n g.ands t ins
  unfold Gr.val
  rw [h1, h2, hu]
  refine worthV_app _ _ _ ?_
  have := (isB_iff g l).1 hl
  rw [nodesV_len]
  unfold Gr.len at this
  omega
theorem Ext.isB {g g' : Gr} (h : Ext g g') {l : Int} (hl : g.isB l = true) : g'.isB l = true := isB_more h.len hl
theorem val_not (g : Gr) (ins : List Bool) (l : Int) (h : g.isB l = true) : g.val ins (notI l) = !g.val ins l := worthV_not _ _ ((isB_iff g l).1 h).1
theorem val_zero (g : Gr) (ins : List Bool) : g.val ins 0 = false := by
  have : (nodesV g.n g.ands ins).getD 0 false = false := by
    obtain ⟨t, h⟩ := nodesV_more g.n [] g.ands ins
    rw [List.nil_append] at h
    rw [h]; rfl
  unfold Gr.val worthV
  rw [show ((0 : Int) / 2).toNat = 0 from rfl, this]; rfl
theorem val_one (g : Gr) (ins : List Bool) : g.val ins 1 = true := by
  have := val_not g ins 0 (isB_zero g)
  rw [val_zero] at this
  exact this
theorem val_input (g : Gr) (ins : List Bool) (i : Nat) (h : i < g.n) : g.val ins (2 * ((i : Int) + 1)) = ins.getD i false := by
  obtain ⟨t, ht⟩ := nodesV_more g.n [] g.ands ins
  rw [List.nil_append] at ht
  unfold Gr.val worthV oddB
  have h2 : (2 * ((i : Int) + 1) / 2).toNat = i + 1 := by omega
  rw [h2, ht, decide_eq_false (show ¬ 2 * ((i : Int) + 1) % 2 = 1 by omega)]
  have : (nodesV g.n [] ins ++ t).getD (i + 1) false = ins.getD i false := by
    simp [nodesV, inV, List.getD, List.getElem?_append_left, h]
  rw [this]; simp
/-- A gate is worth and of its two. -/
theorem val_gate {g : Gr} (ho : g.Ok) (ins : List Bool) (k : Nat) (hk : k < g.ands.length) : g.val ins (2 * (((g.n + k : Nat) : Int) + 1)) = (g.val ins (g.ands.getD k (0, 0)).1 && g.val ins (g.ands.getD k (0, 0)).2) := by
  have hx := (okP_iff _ _ _).1 (ho k hk)
  have e : g.ands = (g.ands.take k ++ [g.ands.getD k (0, 0)]) ++ g.ands.drop (k + 1) := by
    rw [show g.ands.take k ++ [g.ands.getD k (0, 0)] = g.ands.take (k + 1) by rw [List.take_succ_eq_append_getElem hk]; simp [List.getD, hk], List.take_append_drop]
  generalize g.ands.getD k (0, 0) = x at *
  have hln : (nodesV g.n (g.ands.take k) ins).length = g.n + 1 + k := by rw [nodesV_len, List.length_take]; omega
  obtain ⟨t, ht⟩ := nodesV_more g.n (g.ands.take k ++ [x]) (g.ands.drop (k + 1)) ins
  rw [← e, nodesV_snoc] at ht
  have key : ∀ l : Int, 0 ≤ l → l / 2 ≤ ((g.n + k : Nat) : Int) → g.val ins l = worthV (nodesV g.n (g.ands.take k) ins) l := fun l h0 h1 => by
    unfold Gr.val
    rw [ht, List.append_assoc]
    exact worthV_app _ _ _ (by omega)
  rw [key x.1 (by omega) (by omega), key x.2 (by omega) (by omega)]
  unfold Gr.val
  rw [ht]
  generalize nodesV g.n (g.ands.take k) ins = v at *
  have h2 : (2 * (((g.n + k : Nat) : Int) + 1) / 2).toNat = v.length := by omega
  unfold worthV oddB
  rw [h2, decide_eq_false (show ¬ 2 * (((g.n + k : Nat) : Int) + 1) % 2 = 1 by omega)]
  simp [List.getD]

/-- What a call leaves and answers: the graph has grown by at most k gates, and is right; the literal is worth f. -/
structure Mk (g : Gr) (k : Nat) (f : List Bool → Bool) (r : Gr × Int) : Prop where
  ext : Ext g r.1
  ok : r.1.Ok
  bad : r.1.bad = 0
  len : r.1.len ≤ g.len + k
  lit : r.1.isB r.2 = true
  val : ∀ ins, r.1.val ins r.2 = f ins
def Gr.Fine (g : Gr) : Prop := g.Ok ∧ g.bad = 0
theorem Mk.fine {g : Gr} {k : Nat} {f : List Bool → Bool} {r : Gr × Int} (h : Mk g k f r) : r.1.Fine := ⟨h.ok, h.bad⟩
theorem Mk.same {g : Gr} (h : g.Fine) (l : Int) (hl : g.isB l = true) : Mk g 0 (fun ins => g.val ins l) (g, l) := ⟨Ext.refl g, h.1, h.2, Nat.le_refl _, hl, fun _ => rfl⟩
theorem Mk.more {g : Gr} {k m : Nat} {f : List Bool → Bool} {r : Gr × Int} (h : Mk g k f r) (hm : k ≤ m) : Mk g m f r := ⟨h.ext, h.ok, h.bad, Nat.le_trans h.len (by omega), h.lit, h.val⟩
theorem Mk.then {g : Gr} {k m : Nat} {f f' : List Bool → Bool} {r r' : Gr × Int} (h : Mk g k f r) (h' : Mk r.1 m f' r') : Mk g (k + m) f' r' :=
  ⟨h.ext.trans h'.ext, h'.ok, h'.bad, by have := h.len; have := h'.len; omega, h'.lit, h'.val⟩
theorem Mk.not {g : Gr} {k : Nat} {f : List Bool → Bool} {r : Gr × Int} (h : Mk g k f r) : Mk g k (fun ins => !f ins) (r.1, notI r.2) :=
  ⟨h.ext, h.ok, h.bad, h.len, isB_not h.lit, fun ins => by rw [show (r.1, notI r.2).1 = r.1 from rfl, show (r.1, notI r.2).2 = notI r.2 from rfl, val_not _ _ _ h.lit, h.val]⟩
theorem Mk.as {g : Gr} {k : Nat} {f f' : List Bool → Bool} {r : Gr × Int} (h : Mk g k f r) (e : ∀ ins, f ins = f' ins) : Mk g k f' r := ⟨h.ext, h.ok, h.bad, h.len, h.lit, fun ins => (h.val ins).trans (e ins)⟩

theorem andN_mk {g : Gr} (h : g.Fine) (x y : Int) (hx : g.isB x = true) (hy : g.isB y = true) (hyx : y ≤ x) (hl : g.len < 8000) : Mk g 1 (fun ins => g.val ins x && g.val ins y) (andN g x y) := by
  have hx0 := (isB_iff g x).1 hx
  have hy0 := (isB_iff g y).1 hy
  unfold andN
  by_cases h1 : y = 0 ∨ x = notI y
  · rw [if_pos h1]
    refine ((Mk.same h 0 (isB_zero g)).more (by omega)).as fun ins => ?_
    rw [val_zero]
    rcases h1 with rfl | rfl
    · rw [val_zero]; simp
    · rw [val_not g ins y hy]; simp
  · rw [if_neg h1]
    by_cases h2 : y = 1 ∨ x = y
    · rw [if_pos h2]
      refine ((Mk.same h x hx).more (by omega)).as fun ins => ?_
      rcases h2 with rfl | rfl
      · rw [val_one]; simp
      · simp
    · rw [if_neg h2]
      by_cases h3 : (x, y) ∈ g.ands
      · rw [if_pos h3]
        have hk := idx_lt h3
        have hg : g.ands.getD (g.ands.idxOf (x, y)) (0, 0) = (x, y) := by simp [List.getD, hk]
        have hv := fun ins => val_gate h.1 ins (g.ands.idxOf (x, y)) hk
        rw [hg] at hv
        refine ((Mk.same h (g.litOf (x, y)) ?_).more (by omega)).as fun ins => ?_
        · rw [isB_iff]
          unfold Gr.litOf Gr.len
          omega
        · rw [← hv ins]
          unfold Gr.litOf
          congr 2
      · rw [if_neg h3, if_neg (by omega)]
        have hok : (⟨g.n, g.ands ++ [(x, y)], g.bad⟩ : Gr).Ok := by
          intro k hk
          simp only [List.length_append, List.length_singleton] at hk
          by_cases e : k < g.ands.length
          · rw [show (g.ands ++ [(x, y)]).getD k (0, 0) = g.ands.getD k (0, 0) by simp [List.getD, List.getElem?_append_left e]]; exact h.1 k e
          · have e2 : k = g.ands.length := by omega
            subst e2
            rw [show (g.ands ++ [(x, y)]).getD g.ands.length (0, 0) = (x, y) by simp [List.getD]]
            rw [okP_iff]
            exact ⟨hy0.1, hyx, hx0.2⟩
        have hext : Ext g ⟨g.n, g.ands ++ [(x, y)], g.bad⟩ := ⟨rfl, [(x, y)], rfl⟩
        have hlen : (⟨g.n, g.ands ++ [(x, y)], g.bad⟩ : Gr).len = g.len + 1 := by simp [Gr.len]; omega
        refine ⟨hext, hok, h.2, by rw [hlen]; exact Nat.le_refl _, ?_, fun ins => ?_⟩
        · rw [isB_iff]; simp only [hlen]; omega
        · have hv := val_gate hok ins g.ands.length (by simp)
          rw [show (g.ands ++ [(x, y)]).getD g.ands.length (0, 0) = (x, y) by simp [List.getD]] at hv
          rw [← hext.val ins x hx, ← hext.val ins y hy]
          exact hv
theorem andG_mk {g : Gr} (h : g.Fine) (a b : Int) (ha : g.isB a = true) (hb : g.isB b = true) (hl : g.len < 8000) : Mk g 1 (fun ins => g.val ins a && g.val ins b) (andG g a b) := by
  rw [andG_yes g a b ha hb]
  have hm := max_isB g a b ha hb
  refine (andN_mk h _ _ hm.1 hm.2 (by omega) hl).as fun ins => ?_
  rcases Int.le_total a b with k | k
  · rw [Int.max_eq_right k, Int.min_eq_left k, Bool.and_comm]
  · rw [Int.max_eq_left k, Int.min_eq_right k]

/-! ### The other gates -/
def orG (g : Gr) (a b : Int) : Gr × Int := ((andG g (notI a) (notI b)).1, notI (andG g (notI a) (notI b)).2)
def xorG (g : Gr) (a b : Int) : Gr × Int :=
  let x := andG g a b
  let y := andG x.1 (notI a) (notI b)
  andG y.1 (notI x.2) (notI y.2)
def muxG (g : Gr) (c a b : Int) : Gr × Int :=
  let x := andG g c a
  let y := andG x.1 (notI c) b
  orG y.1 x.2 y.2
def stepAll (s : Gr × Int) (l : Int) : Gr × Int := andG s.1 s.2 l
def allG (g : Gr) (ls : List Int) : Gr × Int := ls.foldl stepAll (g, 1)
def anyG (g : Gr) (ls : List Int) : Gr × Int := ((allG g (ls.map notI)).1, notI (allG g (ls.map notI)).2)
/-- A clause's literal as one of the graph. -/
def litI (l : Int) : Int := if l < 0 then notI (2 * (-l)) else 2 * l
def stepCl (s : Gr × List Int) (c : List Int) : Gr × List Int := ((anyG s.1 (c.map litI)).1, s.2 ++ [(anyG s.1 (c.map litI)).2])
def clsG (g : Gr) (cs : List (List Int)) : Gr × List Int := cs.foldl stepCl (g, [])
def clausesG (g : Gr) (cs : List (List Int)) : Gr × Int := allG (clsG g cs).1 (clsG g cs).2

theorem orG_mk {g : Gr} (h : g.Fine) (a b : Int) (ha : g.isB a = true) (hb : g.isB b = true) (hl : g.len < 8000) : Mk g 1 (fun ins => g.val ins a || g.val ins b) (orG g a b) := by
  refine (andG_mk h _ _ (isB_not ha) (isB_not hb) hl).not.as fun ins => ?_
  rw [val_not _ _ _ ha, val_not _ _ _ hb]
  cases g.val ins a <;> cases g.val ins b <;> rfl
theorem xorG_mk {g : Gr} (h : g.Fine) (a b : Int) (ha : g.isB a = true) (hb : g.isB b = true) (hl : g.len + 3 ≤ 8000) : Mk g 3 (fun ins => g.val ins a != g.val ins b) (xorG g a b) := by
  have h1 := andG_mk h a b ha hb (by omega)
  unfold xorG
  generalize andG g a b = x at *
  have l1 := h1.len
  have h2 := andG_mk h1.fine (notI a) (notI b) (isB_not (h1.ext.isB ha)) (isB_not (h1.ext.isB hb)) (by omega)
  simp only
  generalize andG x.1 (notI a) (notI b) = y at *
  have l2 := h2.len
  have h3 := andG_mk h2.fine (notI x.2) (notI y.2) (isB_not (h2.ext.isB h1.lit)) (isB_not h2.lit) (by omega)
  refine ((h1.then h2).then h3).as fun ins => ?_
  rw [val_not _ _ _ (h2.ext.isB h1.lit), val_not _ _ _ h2.lit, h2.ext.val ins _ h1.lit, h1.val, h2.val, val_not _ _ _ (h1.ext.isB ha), val_not _ _ _ (h1.ext.isB hb), h1.ext.val ins _ ha, h1.ext.val ins _ hb]
  cases g.val ins a <;> cases g.val ins b <;> rfl
theorem muxG_mk {g : Gr} (h : g.Fine) (c a b : Int) (hc : g.isB c = true) (ha : g.isB a = true) (hb : g.isB b = true) (hl : g.len + 3 ≤ 8000) : Mk g 3 (fun ins => if g.val ins c = true then g.val ins a else g.val ins b) (muxG g c a b) := by
  have h1 := andG_mk h c a hc ha (by omega)
  unfold muxG
  generalize andG g c a = x at *
  have l1 := h1.len
  have h2 := andG_mk h1.fine (notI c) b (isB_not (h1.ext.isB hc)) (h1.ext.isB hb) (by omega)
  simp only
  generalize andG x.1 (notI c) b = y at *
  have l2 := h2.len
  have h3 := orG_mk h2.fine x.2 y.2 (h2.ext.isB h1.lit) h2.lit (by omega)
  refine ((h1.then h2).then h3).as fun ins => ?_
  rw [h2.ext.val ins _ h1.lit, h1.val, h2.val, val_not _ _ _ (h1.ext.isB hc), h1.ext.val ins _ hc, h1.ext.val ins _ hb]
  cases g.val ins c <;> cases g.val ins a <;> cases g.val ins b <;> rfl
theorem allG_snoc (g : Gr) (ls : List Int) (l : Int) : allG g (ls ++ [l]) = stepAll (allG g ls) l := by unfold allG; rw [List.foldl_append]; rfl
theorem allG_take (g : Gr) (ls : List Int) (k : Nat) (h : k < ls.length) : allG g (ls.take (k + 1)) = stepAll (allG g (ls.take k)) (ls.getD k 0) := by
  rw [← allG_snoc, List.take_succ_eq_append_getElem h]; simp [List.getD, h]
theorem allG_mk {g : Gr} (h : g.Fine) (ls : List Int) (hls : ∀ l ∈ ls, g.isB l = true) (hl : g.len + ls.length ≤ 8000) : Mk g ls.length (fun ins => ls.all (g.val ins)) (allG g ls) := by
  have key : ∀ k, k ≤ ls.length → Mk g k (fun ins => (ls.take k).all (g.val ins)) (allG g (ls.take k)) := by
    intro k
    induction k with
    | zero => intro _; rw [List.take_zero]; exact (Mk.same h 1 (isB_one g)).as fun ins => by rw [val_one]; rfl
    | succ k ih =>
      intro hk
      have h1 := ih (by omega)
      have hm : g.isB (ls.getD k 0) = true := hls _ (by simp [List.getD, show k < ls.length by omega])
      rw [allG_take g ls k (by omega)]
      have hlen := h1.len
      have h2 := andG_mk h1.fine _ (ls.getD k 0) h1.lit (h1.ext.isB hm) (by omega)
      refine (h1.then h2).as fun ins => ?_
      rw [h1.val, h1.ext.val ins _ hm, List.take_succ_eq_append_getElem (show k < ls.length by omega), List.all_append]
      simp [List.getD, show k < ls.length by omega]
  have := key ls.length (Nat.le_refl _)
  rwa [List.take_length] at this
theorem not_all_not {α : Type} (f : α → Bool) : ∀ l : List α, (!(l.all fun x => !f x)) = l.any f
  | [] => rfl
  | x :: l => by rw [List.all_cons, List.any_cons, Bool.not_and, Bool.not_not, not_all_not f l]
theorem anyG_mk {g : Gr} (h : g.Fine) (ls : List Int) (hls : ∀ l ∈ ls, g.isB l = true) (hl : g.len + ls.length ≤ 8000) : Mk g ls.length (fun ins => ls.any (g.val ins)) (anyG g ls) := by
  have h1 := allG_mk h (ls.map notI) (fun l hm => by
    obtain ⟨x, hx, rfl⟩ := List.mem_map.1 hm
    exact isB_not (hls x hx)) (by rw [List.length_map]; exact hl)
  rw [List.length_map] at h1
  refine h1.not.as fun ins => ?_
  rw [List.all_map]
  have : (ls.all (g.val ins ∘ notI)) = ls.all fun l => !g.val ins l := by
    have : ∀ l ∈ ls, (g.val ins ∘ notI) l = !g.val ins l := fun l hm => val_not _ _ _ (hls l hm)
    rw [Bool.eq_iff_iff, List.all_eq_true, List.all_eq_true]
    exact ⟨fun h l hm => by rw [← this l hm]; exact h l hm, fun h l hm => by rw [this l hm]; exact h l hm⟩
  rw [this]
  exact not_all_not _ ls
end Go.Proofs.YtmgepagdkfghlaaDoor
