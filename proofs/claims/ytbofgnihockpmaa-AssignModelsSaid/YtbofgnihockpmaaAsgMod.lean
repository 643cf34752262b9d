/- Words on slices of bools; contracts of assign.Assign.Model, assign.holds and assign.Of. Conditions: the literals lie strictly inside the 64 bits. -/
import Derived.Test.YtbofgnihockpmaaAsgCl
import Derived.Test.YtbofgnihockpmaaCheckP
namespace Go.Proofs.Ytbofgnihockpmaa
open Go.RowKit

/-- The value v is a slice of bools that reads as bs. -/
def BRow (w : World) (v : Value) (bs : List Bool) : Prop :=
  ∃ a c, v = .slice a bs.length c ∧ bs.length ≤ c ∧ c ≤ maxLen ∧ (bs.length = 0 ∨ ∃ b off, a = some ⟨b, off, none⟩ ∧ b < w.heap.size ∧ ∀ i, i < bs.length → w.cell? ⟨b, off + i, none⟩ = some (.bool (bs.getD i false)))
theorem BRow.keep {w w' : World} {v : Value} {bs : List Bool} (h : BRow w v bs) (hb : Below w.heap.size w w') : BRow w' v bs := by
  obtain ⟨a, c, e, h1, h2, h3⟩ := h
  refine ⟨a, c, e, h1, h2, ?_⟩
  rcases h3 with h3 | ⟨b, off, e, hlt, hc⟩
  · exact .inl h3
  · exact .inr ⟨b, off, e, Nat.lt_of_lt_of_le hlt hb.size, fun i hi => (hb.cell (p := ⟨b, off + i, none⟩) hlt).trans (hc i hi)⟩

structure BCel (w : World) (q : Nat) (xs : List Bool) : Prop where
  sq : q < w.heap.size
  cells : ∀ i, i < xs.length → w.cell? ⟨q, i, none⟩ = some (.bool (xs.getD i false))
  free : ∀ i, w.frozen? ⟨q, i, none⟩ = false
theorem getD_setB (V : List Bool) (m : Nat) (x : Bool) (i : Nat) : (V.set m x).getD i false = if m = i ∧ i < V.length then x else V.getD i false := by
  simp only [List.getD, List.getElem?_set]
  by_cases h1 : m = i
  · subst h1
    by_cases h2 : m < V.length
    · simp [h2]
    · simp [h2]
  · simp [h1]
theorem BCel.set {w : World} {q : Nat} {xs : List Bool} (h : BCel w q xs) (m : Nat) (x : Bool) : BCel (w.setCell ⟨q, m, none⟩ (.bool x)) q (xs.set m x) where
  sq := by simpa [World.setCell] using h.sq
  cells := fun i hi => by
    have hi' : i < xs.length := by simpa using hi
    rw [getD_setB]
    by_cases e : m = i
    · subst e
      rw [if_pos ⟨rfl, hi'⟩]
      exact World.cell?_setCell_same (w := w) (h := h.cells m hi') ..
    · rw [if_neg (fun hh => e hh.1), ← h.cells i hi']
      exact World.cell?_setCell_other (w := w) (h := fun hh => e (by injection hh)) ..
  free := fun i => (World.frozen?_setCell _ _ _ _).trans (h.free i)
theorem BCel.row {w : World} {q : Nat} {xs : List Bool} (h : BCel w q xs) (hl : xs.length ≤ 4001) : BRow w (.slice (some ⟨q, 0, none⟩) xs.length xs.length) xs :=
  ⟨_, _, rfl, Nat.le_refl _, by unfold maxLen; omega, .inr ⟨q, 0, rfl, h.sq, fun i hi => by rw [Nat.zero_add]; exact h.cells i hi⟩⟩

theorem infoBool : (Try.prog.info? 4).map (fun i => (i.zero, i.size, i.bytes)) = some (some (.bool false), 1, 1) := by kernel_rfl
theorem wpList_makeB {ops : Array Oper} {rest : List Oper} {o : Oper} {a : Act} {Q : Exit → Act → World → Prop} (hgd : o.guard = none) (l c : Operand) (ho : o.op = Op.makeSlice 42 l c)
    (w : World) (n : Nat) (hl : a.eval l = .int .i64 (n : Int)) (hc : a.eval c = .int .i64 (n : Int)) (hn0 : 0 < n) (hn : n < 1099511627776)
    (h : ∀ w', BCel w' w.heap.size (List.replicate n false) → Below w.heap.size w w' → w.heap.size < w'.heap.size → wpList Try.prog ops Q rest (a.put o.dst (.slice (some ⟨w.heap.size, 0, none⟩) n n)) w') :
    wpList Try.prog ops Q (o :: rest) a w := by
  obtain ⟨i0, hi, hz0, hz1, hz2⟩ := info_parts infoBool
  refine wpList_make_full _ hgd l c 42 ho w.heap.size 4 i0 (.bool false) 1 Try.underlying42 hi hz0 hz1 _ _ _ _ n hl hc rfl rfl (by rw [hz2]; omega) (by unfold maxLen; omega) (Nat.le_refl _) ?_
  intro w' h1 h2
  have hlt := h1.lt w.heap.size rfl
  refine h w' ?_ ((Below.refl _ w).grown h2 (Nat.le_refl _) fun k hk => by cases hk) hlt.2
  have hz : (madeCells (Value.bool false).cells (n * 1)).toList = List.replicate n (Value.bool false) := by
    apply List.ext_getElem (by simp [madeCells])
    intro i _ _
    simp [madeCells, Value.cells, Nat.mod_one]
  rw [hz] at h1
  rcases h1.2 with ⟨e0, _⟩ | ⟨g, cap, cur, e0, _, hg, hc1, hc2, hc3, hc4⟩
  · cases e0
  · injection e0 with e0 _ e1
    injection e0 with e0
    injection e0 with e0
    subst e0; subst e1
    refine ⟨hlt.2, fun i hi => ?_, fun i => by simp [World.frozen?, hg]⟩
    have hi' : i < n := by simpa using hi
    have hget : cur.toList[i]? = some (Value.bool false) := by
      have : (cur.toList.take (n * 1))[i]? = some (Value.bool false) := by rw [hc4]; simp [hi']
      rw [List.getElem?_take] at this
      rw [if_pos (by omega)] at this
      exact this
    simp only [World.cell?, hg]
    have : cur[i]? = some (Value.bool false) := by rw [← hget]; simp
    rw [List.getD, List.getElem?_replicate, if_pos hi']
    simpa using this

/-- The model of values. -/
def modelL (V : List Int) : List Bool := V.map fun x => x == 1
theorem modelL_get (V : List Int) (i : Nat) : (modelL V).getD i false = (V.getD i 0 == 1) := by
  unfold modelL
  by_cases h : i < V.length
  · simp [List.getD, h]
  · simp [List.getD, h]
theorem getD_extB {xs ys : List Bool} (h : xs.length = ys.length) (k : ∀ j, j < xs.length → xs.getD j false = ys.getD j false) : xs = ys := by
  apply List.ext_getElem h
  intro i h1 h2
  have := k i h1
  simpa [List.getD, h1, h2] using this

def ModelPost (w : World) (V : List Int) (e : Ending) (w' : World) : Prop :=
  e = .returned (.slice (some ⟨w.heap.size, 0, none⟩) V.length V.length) ∧ BCel w' w.heap.size (modelL V) ∧ Below w.heap.size w w'

set_option maxRecDepth 4000 in
set_option maxHeartbeats 2000000 in
theorem model_any {w : World} {B : Nat} {v : Value} {p q : Nat} {V : List Int} (h : Asg w B v p q V) :
    Calls Try.prog 26 #[v] w (ModelPost w V) := by
  unfold ModelPost
  have hlen := h.vals.len
  have hpos := h.vals.pos
  have g0 := h.head
  have HC := Lib.hid h.cells
  have hp := h.sp
  have hq := h.sq
  obtain rfl := h.val
  clear h
  have HML := Lib.hid (show (modelL V).length = V.length by simp [modelL])
  generalize hN : V.length = n at *
  have HN := Lib.hid hN; clear hN
  go_enter Try.func26, Try.ntmps26
  go_wp2_with (at_make; refine wpList_makeB rfl _ _ rfl _ n rfl rfl hpos (by omega) ?_; intro w1 hm hb hs; have g2 : w1.cell? ⟨p, 0, none⟩ = some (.slice (some ⟨q, 0, none⟩) n n) := (hb.cell (p := ⟨p, 0, none⟩) hp).trans g0)
  go_loopw [4, 5, 17] (fun _ _ i wr => ∃ (k : Nat) (bs : List Bool), k ≤ n ∧ i = .int .i64 k ∧ BCel wr w.heap.size bs ∧ Below w.heap.size w wr ∧ Hid (bs.length = n) ∧ Hid (∀ j, j < k → bs.getD j false = (V.getD j 0 == 1))) (fun _ _ i _ => n - (intOf i).toNat)
  case atStart => exact ⟨0, _, Nat.zero_le _, rfl, hm, hb, by simp [Hid], fun j hj => absurd hj (Nat.not_lt_zero _)⟩
  case round =>
    obtain ⟨k, bs, hk, rfl, hm2, hbr, HL, HQ⟩ := hrel
    clear hm hb g2 hs
    by_cases hlt : k < n
    · have g1 : wr.cell? ⟨q, k, none⟩ = some (.int .i64 (V.getD k 0)) := (hbr.cell (p := ⟨q, k, none⟩) hq).trans (HC.out k hlt)
      have g3 := hm2.cells k (by rw [HL.out]; exact hlt)
      have g4 := hm2.free k
      have HS := Lib.hid (fun (y : Bool) (hy : (V.getD k 0 == 1) = y) => show ∀ j, j < k + 1 → (bs.set k y).getD j false = (V.getD j 0 == 1) from fun j hj => by
        rw [getD_setB, HL.out]
        by_cases e : k = j
        · subst e; rw [if_pos ⟨rfl, hlt⟩, hy]
        · rw [if_neg (fun hh => e hh.1)]; exact HQ.out j (by omega))
      generalize V.getD k 0 = x at *
      by_cases hx : x = 1
      · subst hx
        go_wp2
        go_roundw
        case rel => exact ⟨k + 1, _, by omega, by go_num, hm2.set k true, hbr.setCell (Nat.le_refl _) _, by unfold Hid; rw [List.length_set]; exact HL.out, HS.out true rfl⟩
        case measure => simp [intOf]; omega
      · have hxb : (x == 1) = false := by simp [hx]
        go_wp2
        go_roundw
        case rel => exact ⟨k + 1, _, by omega, by go_num, hm2.set k false, hbr.setCell (Nat.le_refl _) _, by unfold Hid; rw [List.length_set]; exact HL.out, HS.out false hxb⟩
        case measure => simp [intOf]; omega
    · have hkn : k = n := by omega
      subst hkn
      have HE := Lib.hid (show bs = modelL V from getD_extB (by rw [HL.out, HML.out]) fun j hj => by rw [modelL_get]; exact HQ.out j (by rw [HL.out] at hj; exact hj))
      clear hlt
      go_wp2
      go_ret
      exact ⟨rfl, by rw [← HE.out]; exact hm2, hbr⟩

/-- The literal is true in the model. -/
def holdsL (bs : List Bool) (l : Int) : Bool := (decide (1 ≤ plc l) && decide (plc l < bs.length)) && (bs.getD (plc l) false == decide (0 < l))
def ofC (bs : List Bool) (c : List Int) : Bool := c.any (holdsL bs)
def ofL (cs : List (List Int)) (bs : List Bool) : Bool := cs.all (ofC bs)

theorem any_snoc (f : Int → Bool) (xs : List Int) (k : Nat) (h : k < xs.length) : (xs.take (k + 1)).any f = ((xs.take k).any f || f (xs.getD k 0)) := by
  rw [take_snoc xs k h, List.any_append]; simp
theorem any_true (f : Int → Bool) (xs : List Int) (k : Nat) (h : k < xs.length) (hf : f (xs.getD k 0) = true) : xs.any f = true := by
  rw [List.any_eq_true]
  exact ⟨xs[k], List.getElem_mem h, by simpa [List.getD, h] using hf⟩

set_option maxRecDepth 4000 in
set_option maxHeartbeats 2000000 in
theorem holds_any (u m : Value) (xs : List Int) (bs : List Bool) (w : World) (hu : Row w u xs) (hm : BRow w m bs) (hxs : InW xs) :
    Calls Try.prog 36 #[u, m] w fun e w' => e = .returned (.bool (ofC bs xs)) ∧ w = w' := by
  obtain ⟨a, c, rfl, hxc, hcm, hx⟩ := hu
  obtain ⟨a', c', rfl, hyc, hcm', hy⟩ := hm
  unfold maxLen at hcm hcm'
  have HX := Lib.hid hx; clear hx
  have HY := Lib.hid hy; clear hy
  have HW := Lib.hid hxs; clear hxs
  generalize hN : xs.length = n at *
  have HN := Lib.hid hN; clear hN
  go_enter Try.func36, Try.ntmps36
  go_wp2_with fail
  go_loop [6, 9] (fun _ i => ∃ k : Nat, k ≤ n ∧ i = .int .i64 k ∧ Hid ((xs.take k).any (holdsL bs) = false)) (fun _ i => n - (intOf i).toNat)
  case atStart => exact ⟨0, Nat.zero_le _, rfl, by simp [Hid]⟩
  case round =>
    obtain ⟨k, hk, rfl, HQ⟩ := hrel
    by_cases hlt : k < n
    · obtain ⟨b, off, ha, hb, hc⟩ := HX.out.resolve_left (by omega)
      subst ha
      have g1 := hc k hlt
      clear hc hb
      have hkl : k < xs.length := by rw [HN.out]; exact hlt
      have hyb := HW.out.get k
      have HU := Lib.hid (any_snoc (holdsL bs) xs k hkl)
      have HG := Lib.hid (any_true (holdsL bs) xs k hkl)
      generalize xs.getD k 0 = y at *
      obtain ⟨hy1, hy2⟩ := hyb
      have HI := Lib.hid (fun W => is_any y ((bs.length : Int) - 1) W hy1 hy2)
      have HV := Lib.hid (fun W => var_any y W hy1 hy2)
      have HH := Lib.hid (show holdsL bs y = ((decide (1 ≤ plc y) && decide (plc y < bs.length)) && (bs.getD (plc y) false == decide (0 < y))) from rfl)
      rw [← plc_absI y] at HI HV
      generalize plc y = m at *
      by_cases hr : 1 ≤ m ∧ m < bs.length
      · obtain ⟨hr1, hr2⟩ := hr
        have hb1 : (decide (1 ≤ (m : Int)) && decide ((m : Int) ≤ (bs.length : Int) - 1)) = true := by simp; omega
        have hb2 : (decide (1 ≤ m) && decide (m < bs.length)) = true := by simp; omega
        rw [hb1] at HI
        rw [hb2] at HH
        obtain ⟨b2, off2, ha2, _, hc2⟩ := HY.out.resolve_left (by omega)
        subst ha2
        have g2 := hc2 m hr2
        clear hc2 hb1 hb2
        generalize bs.getD m false = t at *
        generalize bs.length = r at *
        by_cases hp : 0 < y
        · have hpd : decide (0 < y) = true := by simp [hp]
          rw [hpd] at HH
          cases t with
          | true =>
            have HR := Lib.hid (show ofC bs xs = true from HG.out (by rw [HH.out]; rfl))
            clear HG HU HQ
            go_wp2_with (first | (go_at_call 38; refine (HI.out _).mono ?_; rintro e w' ⟨rfl, rfl⟩) | (go_at_call 39; refine (HV.out _).mono ?_; rintro e w' ⟨rfl, rfl⟩))
            go_ret
            exact ⟨ret_bool HR.out.symm, rfl⟩
          | false =>
            have HU' := Lib.hid (show (xs.take (k + 1)).any (holdsL bs) = false by rw [HU.out, HQ.out, HH.out]; rfl)
            clear HG HU
            go_wp2_with (first | (go_at_call 38; refine (HI.out _).mono ?_; rintro e w' ⟨rfl, rfl⟩) | (go_at_call 39; refine (HV.out _).mono ?_; rintro e w' ⟨rfl, rfl⟩))
            go_round
            case rel => exact ⟨k + 1, by omega, by go_num, HU'.out⟩
            case measure => simp [intOf]; omega
        · have hpd : decide (0 < y) = false := by simp; omega
          rw [hpd] at HH
          cases t with
          | false =>
            have HR := Lib.hid (show ofC bs xs = true from HG.out (by rw [HH.out]; rfl))
            clear HG HU HQ
            go_wp2_with (first | (go_at_call 38; refine (HI.out _).mono ?_; rintro e w' ⟨rfl, rfl⟩) | (go_at_call 39; refine (HV.out _).mono ?_; rintro e w' ⟨rfl, rfl⟩))
            go_ret
            exact ⟨ret_bool HR.out.symm, rfl⟩
          | true =>
            have HU' := Lib.hid (show (xs.take (k + 1)).any (holdsL bs) = false by rw [HU.out, HQ.out, HH.out]; rfl)
            clear HG HU
            go_wp2_with (first | (go_at_call 38; refine (HI.out _).mono ?_; rintro e w' ⟨rfl, rfl⟩) | (go_at_call 39; refine (HV.out _).mono ?_; rintro e w' ⟨rfl, rfl⟩))
            go_round
            case rel => exact ⟨k + 1, by omega, by go_num, HU'.out⟩
            case measure => simp [intOf]; omega
      · have hb1 : (decide (1 ≤ (m : Int)) && decide ((m : Int) ≤ (bs.length : Int) - 1)) = false := by simp; omega
        have hb2 : (decide (1 ≤ m) && decide (m < bs.length)) = false := by simp; omega
        rw [hb1] at HI
        rw [hb2] at HH
        have HU' := Lib.hid (show (xs.take (k + 1)).any (holdsL bs) = false by rw [HU.out, HQ.out, HH.out]; rfl)
        clear hb1 hb2 HG HU hr
        generalize bs.length = r at *
        go_wp2_with (first | (go_at_call 38; refine (HI.out _).mono ?_; rintro e w' ⟨rfl, rfl⟩) | (go_at_call 39; refine (HV.out _).mono ?_; rintro e w' ⟨rfl, rfl⟩))
        go_round
        case rel => exact ⟨k + 1, by omega, by go_num, HU'.out⟩
        case measure => simp [intOf]; omega
    · have hkn : k = n := by omega
      have HA := Lib.hid (show ofC bs xs = false by have := HQ.out; rwa [hkn, List.take_of_length_le (by rw [HN.out]; exact Nat.le_refl _)] at this)
      clear hlt HQ
      go_wp2
      go_ret
      exact ⟨ret_bool HA.out.symm, rfl⟩

theorem ofL_succ (cs : List (List Int)) (bs : List Bool) (k : Nat) (h : k < cs.length) : ofL (cs.take (k + 1)) bs = (ofL (cs.take k) bs && ofC bs (cs.getD k [])) := by
  unfold ofL
  rw [List.take_succ_eq_append_getElem h, List.all_append]; simp [List.getD, h]
theorem ofL_no (cs : List (List Int)) (bs : List Bool) (k : Nat) (h : k < cs.length) (hf : ofC bs (cs.getD k []) = false) : ofL cs bs = false := by
  unfold ofL
  rw [List.all_eq_false]
  exact ⟨cs[k], List.getElem_mem h, by rw [show cs[k] = cs.getD k [] by simp [List.getD, h], hf]; simp⟩
theorem row_inW {xss : List (List Int)} (h : ∀ xs ∈ xss, InW xs) (k : Nat) : InW (xss.getD k []) := by
  by_cases hk : k < xss.length
  · have := h _ (List.getElem_mem hk); simpa [List.getD, hk] using this
  · intro x hx; simp [List.getD, show xss.length ≤ k by omega] at hx

set_option maxRecDepth 4000 in
set_option maxHeartbeats 2000000 in
theorem of_any (a : Option Addr) (cap : Nat) (xss : List (List Int)) (m : Value) (bs : List Bool) (w : World) (hr : RowsAt w a cap xss) (hm : BRow w m bs) (hxs : ∀ xs ∈ xss, InW xs) :
    Calls Try.prog 27 #[.slice a xss.length cap, m] w fun e w' => e = .returned (.bool (ofL xss bs)) ∧ w = w' := by
  obtain ⟨hc1, hc2, hr⟩ := hr
  unfold maxLen at hc2
  have HR := Lib.hid hr; clear hr
  have HM := Lib.hid hm
  have HW := Lib.hid hxs; clear hxs
  obtain ⟨a2, c2, rfl, _, _, _⟩ := hm
  generalize hN : xss.length = n at *
  have HN := Lib.hid hN; clear hN
  go_enter Try.func27, Try.ntmps27
  go_wp2_with fail
  go_loop [6, 9] (fun _ i => ∃ k : Nat, k ≤ n ∧ i = .int .i64 k ∧ Hid (ofL (xss.take k) bs = true)) (fun _ i => n - (intOf i).toNat)
  case atStart => exact ⟨0, Nat.zero_le _, rfl, by simp [Hid, ofL]⟩
  case round =>
    obtain ⟨k, hk, rfl, HQ⟩ := hrel
    by_cases hlt : k < n
    · obtain ⟨b, off, ha, hb, hc⟩ := HR.out.resolve_left (by omega)
      subst ha
      obtain ⟨v, g1, hv⟩ := hc k hlt
      clear hc
      have hkl : k < xss.length := by rw [HN.out]; exact hlt
      have HT := Lib.hid (ofL_succ xss bs k hkl)
      have HF := Lib.hid (ofL_no xss bs k hkl)
      have HNE := Lib.hid (holds_any v _ _ bs w hv HM.out (row_inW HW.out k))
      generalize xss.getD k [] = ys at *
      obtain ⟨av, cv, rfl, _⟩ := hv
      cases hy : ofC bs ys with
      | false =>
        rw [hy] at HNE
        have HF' := Lib.hid (HF.out hy)
        clear HF hy HT
        go_wp2_with (go_at_call 36; refine HNE.out.mono ?_; rintro e w' ⟨rfl, rfl⟩)
        go_ret
        exact ⟨ret_bool HF'.out.symm, rfl⟩
      | true =>
        rw [hy] at HNE
        have HT' := Lib.hid (show ofL (xss.take (k + 1)) bs = true by rw [HT.out, HQ.out, hy]; rfl)
        clear HF hy HT
        go_wp2_with (go_at_call 36; refine HNE.out.mono ?_; rintro e w' ⟨rfl, rfl⟩)
        go_round
        case rel => exact ⟨k + 1, by omega, by go_num, HT'.out⟩
        case measure => simp [intOf]; omega
    · have hkn : k = n := by omega
      have HA := Lib.hid (show ofL xss bs = true by have := HQ.out; rwa [hkn, List.take_of_length_le (by rw [HN.out]; exact Nat.le_refl _)] at this)
      clear hlt HQ
      go_wp2
      go_ret
      exact ⟨ret_bool HA.out.symm, rfl⟩
end Go.Proofs.Ytbofgnihockpmaa
