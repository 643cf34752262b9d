/- Clauses while they are made: slices of ints in a slice, memory of the call's own; empty ones too. No conditions beyond those typed. · Plain facts: a literal of these variables. Nothing of the program. · Contracts of skolemmake.Clauses and CNF: clauses of right literals, not too many, in memory of the call's own. Conditions: the slice reads as 64-bit ints and is short; 1 to 100 variables. · Words on a slice of ints of the call's own that is written in place. Holds for every world; no conditions beyond those typed. -/
import Derived.Test.YtjlmooimdogmjaaLg01
import Derived.Test.YtjlmooimdogmjaaLg00
import Derived.Deep.Light
import Derived.Deep.RegionWith
import Derived.Test.YtjlmooimdogmjaaLg23
set_option linter.unusedVariables false
set_option linter.unusedSimpArgs false
namespace Go.Proofs.Ytjlmooimdogmjaa
open Go.RowKit

theorem infoInts : (Try.prog.info? 22).map (fun i => (i.zero, i.size, i.bytes)) = some (some (.slice none 0 0), 1, 24) := by kernel_rfl
/-- While clauses are made: those made already (vs), the one at hand (c). -/
structure ClG (w : World) (B : Nat) (o c : Value) (vs : List Value) (done : List (List Int)) (cur : List Int) : Prop where
  len : vs.length = done.length
  out : w.ownsRow B 22 1 o done.length vs
  each : ∀ j, j < done.length → ∃ v, vs[j]? = some v ∧ w.ownsRow B 3 1 v (done.getD j []).length ((done.getD j []).map (Value.int .i64)) ∧ ∀ g, v.ownBlock = some g → g < w.heap.size ∧ o.ownBlock ≠ some g ∧ c.ownBlock ≠ some g
  row : w.ownsRow B 3 1 c cur.length (cur.map (Value.int .i64))
  sep : ∀ g, o.ownBlock = some g → c.ownBlock ≠ some g
theorem ClG.start (w : World) (B : Nat) : ClG w B (.slice none 0 0) (.slice none 0 0) [] [] [] :=
  ⟨rfl, ⟨rfl, .inl ⟨rfl, rfl⟩⟩, fun j hj => absurd hj (Nat.not_lt_zero _), ⟨rfl, .inl ⟨rfl, rfl⟩⟩, fun g e => (by cases e)⟩
theorem own_ltG {w : World} {B : Nat} {e : TypeId} {size : Nat} {v : Value} {n : Nat} {xs : List Value} (h : w.ownsRow B e size v n xs) {g : Nat} (hg : v.ownBlock = some g) : g < w.heap.size := by
  rcases h.2 with ⟨rfl, _⟩ | ⟨g', cap, cur, rfl, _, hh, _⟩
  · cases hg
  · have : g' = g := by simpa [Value.ownBlock] using hg
    subst this
    rcases Nat.lt_or_ge g' w.heap.size with h' | h'
    · exact h'
    · rw [Array.getElem?_eq_none h'] at hh; cases hh
theorem ClG.push {w w' : World} {B : Nat} {o o' c : Value} {vs : List Value} {done : List (List Int)} {cur : List Int} (h : ClG w B o c vs done cur) (ha : App B w w' o o') (ho : w'.ownsRow B 22 1 o' (done.length + 1) (vs ++ [c])) :
    ClG w' B o' (.slice none 0 0) (vs ++ [c]) (done ++ [cur]) [] := by
  have hsw : ∀ {v : Value} {xs : List Value} {n : Nat}, w.ownsRow B 3 1 v n xs → (∀ g, v.ownBlock = some g → g < w.heap.size ∧ o.ownBlock ≠ some g) → w'.ownsRow B 3 1 v n xs ∧ ∀ g, v.ownBlock = some g → g < w'.heap.size ∧ o'.ownBlock ≠ some g ∧ (Value.slice none 0 0).ownBlock ≠ some g := fun {v xs n} h1 h2 =>
    ⟨ha.own h1 (by
      cases e : v.ownBlock with
      | none => exact .inl rfl
      | some g => exact .inr fun e' => (h2 g e).2 e'.symm), fun g e => ⟨Nat.lt_of_lt_of_le (h2 g e).1 ha.below.size, ha.ne (h2 g e).1 (h2 g e).2, fun e' => (by cases e')⟩⟩
  refine ⟨by simp [h.len], by simpa using ho, ?_, ⟨rfl, .inl ⟨rfl, rfl⟩⟩, fun g _ e => (by cases e)⟩
  intro j hj
  by_cases hlt : j < done.length
  · obtain ⟨v, h1, h2, h3⟩ := h.each j hlt
    have hg : (done ++ [cur]).getD j [] = done.getD j [] := by simp [List.getD, List.getElem?_append_left hlt]
    refine ⟨v, by rw [List.getElem?_append_left (by rw [h.len]; exact hlt)]; exact h1, ?_⟩
    rw [hg]
    exact hsw h2 (fun g e => ⟨(h3 g e).1, (h3 g e).2.1⟩)
  · have hj' : j = done.length := by simp at hj; omega
    subst hj'
    have hg : (done ++ [cur]).getD done.length [] = cur := by simp [List.getD]
    refine ⟨c, by rw [← h.len]; simp, ?_⟩
    rw [hg]
    exact hsw h.row (fun g e => ⟨own_ltG h.row e, fun e' => h.sep g e' e⟩)
theorem ClG.add {w w' : World} {B : Nat} {o c c' : Value} {vs : List Value} {done : List (List Int)} {cur : List Int} {y : Int} (h : ClG w B o c vs done cur) (ha : App B w w' c c') (ho : w'.ownsRow B 3 1 c' (cur.length + 1) ((cur ++ [y]).map (Value.int .i64))) :
    ClG w' B o c' vs done (cur ++ [y]) := by
  refine ⟨h.len, ha.own h.out ?_, ?_, by simpa using ho, ?_⟩
  · cases e : o.ownBlock with
    | none => exact .inl rfl
    | some g => exact .inr fun e' => h.sep g e e'.symm
  · intro j hj
    obtain ⟨v, h1, h2, h3⟩ := h.each j hj
    refine ⟨v, h1, ha.own h2 ?_, fun g e => ⟨Nat.lt_of_lt_of_le (h3 g e).1 ha.below.size, (h3 g e).2.1, ha.ne (h3 g e).1 (h3 g e).2.2⟩⟩
    cases e : v.ownBlock with
    | none => exact .inl rfl
    | some g => exact .inr fun e' => (h3 g e).2.2 e'.symm
  · intro g e
    exact ha.ne (own_ltG h.out e) (h.sep g e)
theorem ClG.keep {w w' : World} {B : Nat} {o c : Value} {vs : List Value} {done : List (List Int)} {cur : List Int} (h : ClG w B o c vs done cur) (hb : Below w.heap.size w w') : ClG w' B o c vs done cur := by
  refine ⟨h.len, own_keep h.out hb, fun j hj => ?_, own_keep h.row hb, h.sep⟩
  obtain ⟨v, h1, h2, h3⟩ := h.each j hj
  exact ⟨v, h1, own_keep h2 hb, fun g e => ⟨Nat.lt_of_lt_of_le (h3 g e).1 hb.size, (h3 g e).2⟩⟩
theorem ClG.rows {w : World} {B : Nat} {o c : Value} {vs : List Value} {done : List (List Int)} {cur : List Int} (h : ClG w B o c vs done cur) : ∃ a cap, o = .slice a done.length cap ∧ RowsAt w a cap done := by
  rcases h.out.2 with ⟨e0, e1⟩ | ⟨g, cap, cl, e0, hb, hg, hn, hm, hs, ht⟩
  · subst e0
    have : done = [] := List.eq_nil_of_length_eq_zero e1
    subst this
    exact ⟨none, 0, rfl, Nat.le_refl _, by unfold maxLen; omega, .inl rfl⟩
  · subst e0
    have hlt : g < w.heap.size := own_ltG h.out rfl
    refine ⟨_, cap, rfl, hn, hm, .inr ⟨g, 0, rfl, hlt, fun i hi => ?_⟩⟩
    obtain ⟨v, h1, h2, _⟩ := h.each i hi
    refine ⟨v, ?_, own_row h2⟩
    have hget : (cl.toList.take (done.length * 1))[i]? = some v := by rw [ht]; exact h1
    rw [List.getElem?_take, if_pos (by omega)] at hget
    have : cl[i]? = some v := by rw [← hget]; simp
    simp only [World.cell?, hg, Nat.zero_add]
    simpa using this
theorem ClG.set {w : World} {B : Nat} {o c : Value} {vs : List Value} {done : List (List Int)} {cur : List Int} (h : ClG w B o c vs done cur) (q off : Nat) (u : Value) (hq : q < B) : ClG (w.setCell ⟨q, off, none⟩ u) B o c vs done cur := by
  refine ⟨h.len, ownsRow_setCell_below h.out (by simpa using hq) _, fun j hj => ?_, ownsRow_setCell_below h.row (by simpa using hq) _, h.sep⟩
  obtain ⟨v, h1, h2, h3⟩ := h.each j hj
  exact ⟨v, h1, ownsRow_setCell_below h2 (by simpa using hq) _, fun g e => ⟨by simpa [World.setCell] using (h3 g e).1, (h3 g e).2⟩⟩
theorem ClG.mono {w : World} {B B' : Nat} {o c : Value} {vs : List Value} {done : List (List Int)} {cur : List Int} (h : ClG w B o c vs done cur) (hB : B' ≤ B) : ClG w B' o c vs done cur := by
  refine ⟨h.len, own_base h.out hB, fun j hj => ?_, own_base h.row hB, h.sep⟩
  obtain ⟨v, h1, h2, h3⟩ := h.each j hj
  exact ⟨v, h1, own_base h2 hB, h3⟩
/-- The value is a slice of clauses that reads as xss; all made since the block B. -/
def CRow (w : World) (B : Nat) (v : Value) (xss : List (List Int)) : Prop := ∃ c vs cur, ClG w B v c vs xss cur
theorem CRow.keep {w w' : World} {B : Nat} {v : Value} {xss : List (List Int)} (h : CRow w B v xss) (hb : Below w.heap.size w w') : CRow w' B v xss := by
  obtain ⟨c, vs, cur, h⟩ := h
  exact ⟨c, vs, cur, h.keep hb⟩
theorem CRow.set {w : World} {B : Nat} {v : Value} {xss : List (List Int)} (h : CRow w B v xss) (q off : Nat) (u : Value) (hq : q < B) : CRow (w.setCell ⟨q, off, none⟩ u) B v xss := by
  obtain ⟨c, vs, cur, h⟩ := h
  exact ⟨c, vs, cur, h.set q off u hq⟩
theorem CRow.mono {w : World} {B B' : Nat} {v : Value} {xss : List (List Int)} (h : CRow w B v xss) (hB : B' ≤ B) : CRow w B' v xss := by
  obtain ⟨c, vs, cur, h⟩ := h
  exact ⟨c, vs, cur, h.mono hB⟩
theorem CRow.nil (w : World) (B : Nat) : CRow w B (.slice none 0 0) [] := ⟨_, _, _, ClG.start w B⟩
theorem CRow.rows {w : World} {B : Nat} {v : Value} {xss : List (List Int)} (h : CRow w B v xss) : ∃ a cap, v = .slice a xss.length cap ∧ RowsAt w a cap xss := by
  obtain ⟨c, vs, cur, h⟩ := h
  exact h.rows
end Go.Proofs.Ytjlmooimdogmjaa

namespace Go.Proofs.Ytjlmooimdogmjaa

def isF (l vars : Int) : Bool := decide (l ≠ 0) && (decide (l ≤ vars) && decide (-vars ≤ l))
end Go.Proofs.Ytjlmooimdogmjaa

namespace Go.Proofs.Ytjlmooimdogmjaa
open Go.RowKit

set_option maxHeartbeats 400000 in
theorem number_big (n : Int) (w : World) (h1 : -9223372036854775808 ≤ n) (h2 : n ≤ 9223372036854775807) :
    Calls Try.prog 26 #[.int .i64 n, .int .i64 1099511627776] w fun e w' => e = .returned (.int .i64 (n % 1099511627776)) ∧ w = w' := by
  have t1 := Int.tmod_lt_of_pos n (show (0 : Int) < 1099511627776 by omega)
  have t2 : -1099511627776 < n.tmod 1099511627776 := Int.lt_tmod_of_pos n (by omega)
  have t3 : n.tmod 1099511627776 < 0 → n.tmod 1099511627776 + 1099511627776 = n % 1099511627776 := fun h => by
    rw [Int.emod_eq_tmod, if_neg]
    · simp
    · intro h'
      rcases h' with h' | h'
      · have := Int.tmod_nonneg 1099511627776 h'; omega
      · rw [Int.tmod_eq_zero_of_dvd h'] at h; omega
  have t4 : ¬ n.tmod 1099511627776 < 0 → n.tmod 1099511627776 = n % 1099511627776 := fun h => by
    rw [Int.emod_eq_tmod, if_pos]
    · simp
    · by_cases h0 : 0 ≤ n
      · exact .inl h0
      · right
        have hneg := Int.tmod_nonneg (a := -n) 1099511627776 (by omega)
        rw [Int.neg_tmod] at hneg
        have h0' : n.tmod 1099511627776 = 0 := by omega
        exact Int.dvd_of_tmod_eq_zero h0'
  have H3 := Lib.hid t3; clear t3
  have H4 := Lib.hid t4; clear t4
  by_cases hneg : n.tmod 1099511627776 < 0
  · go_enter Try.func26, Try.ntmps26
    go_wp2
    go_ret
    exact ⟨ret_int (H3.out hneg), rfl⟩
  · go_enter Try.func26, Try.ntmps26
    go_wp2
    go_ret
    exact ⟨ret_int (H4.out hneg), rfl⟩

/-- The clauses made of k numbers. -/
structure Good (m : Int) (dn : List (List Int)) (cur : List Int) (k : Nat) : Prop where
  l1 : ∀ c ∈ dn, ∀ l ∈ c, l ≠ 0 ∧ isF l m = true
  l2 : ∀ l ∈ cur, l ≠ 0 ∧ isF l m = true
  sum : (dn.map List.length).sum + cur.length ≤ k
  len : dn.length + (if cur = [] then 0 else 1) ≤ k
theorem litOf_good (n m : Int) (h : 1 ≤ m) : litOf n m ≠ 0 ∧ isF (litOf n m) m = true := by
  have h1 := litOf_bd n m (by omega)
  unfold isF
  simp
  exact ⟨h1.1, h1.2.2, h1.2.1⟩
theorem Good.start (m : Int) : Good m [] [] 0 := ⟨fun _ h => (by cases h), fun _ h => (by cases h), by simp, by simp⟩
theorem Good.add {m : Int} {dn : List (List Int)} {cur : List Int} {k : Nat} (h : Good m dn cur k) (n : Int) (hm : 1 ≤ m) : Good m dn (cur ++ [litOf n m]) (k + 1) := by
  refine ⟨h.l1, fun l hl => ?_, by have := h.sum; simp; omega, by have := h.len; simp; split at this <;> omega⟩
  rw [List.mem_append] at hl
  rcases hl with hl | hl
  · exact h.l2 l hl
  · have e : l = litOf n m := by simpa using hl
    subst e
    exact litOf_good n m hm
theorem Good.push {m : Int} {dn : List (List Int)} {cur : List Int} {k : Nat} (h : Good m dn cur k) (hc : cur ≠ []) : Good m (dn ++ [cur]) [] k := by
  refine ⟨fun c hc => ?_, fun _ h => (by cases h), by have := h.sum; simp; omega, by have := h.len; rw [if_neg hc] at this; simp; omega⟩
  rw [List.mem_append] at hc
  rcases hc with hc | hc
  · exact h.l1 c hc
  · have e : c = cur := by simpa using hc
    subst e
    exact h.l2
theorem Good.last {m : Int} {dn : List (List Int)} {k : Nat} (h : Good m dn [] k) : (∀ c ∈ dn, ∀ l ∈ c, l ≠ 0 ∧ isF l m = true) ∧ (dn.map List.length).sum ≤ k ∧ dn.length ≤ k := ⟨h.l1, by have := h.sum; simp at this; omega, by have := h.len; simp at this; omega⟩
theorem Good.last' {m : Int} {dn : List (List Int)} {k n : Nat} (h : Good m dn [] k) (hk : k ≤ n) : (∀ c ∈ dn, ∀ l ∈ c, l ≠ 0 ∧ isF l m = true) ∧ (dn.map List.length).sum ≤ n ∧ dn.length ≤ n := ⟨h.last.1, by have := h.last.2.1; omega, by have := h.last.2.2; omega⟩
def MakePost (w : World) (n : Nat) (m : Int) (e : Ending) (w' : World) : Prop :=
  (∃ v xss, e = .returned v ∧ CRow w' w.heap.size v xss ∧ (∀ c ∈ xss, ∀ l ∈ c, l ≠ 0 ∧ isF l m = true) ∧ (xss.map List.length).sum ≤ n ∧ xss.length ≤ n) ∧ Below w.heap.size w w'

set_option maxRecDepth 4000 in
set_option maxHeartbeats 4000000 in
theorem makeCl_any (a : Option Addr) (c : Nat) (cs : List Int) (m : Int) (w : World) (hm1 : 1 ≤ m) (hm2 : m ≤ 100) (hv : RowAt w a c cs) (hcs : ∀ y ∈ cs, -9223372036854775808 ≤ y ∧ y ≤ 9223372036854775807) (hn : cs.length ≤ 200) :
    Calls Try.prog 29 #[.slice a cs.length c, .int .i64 m] w (MakePost w cs.length m) := by
  obtain ⟨hvc, hcm, hv⟩ := hv
  unfold maxLen at hcm
  have HX := Lib.hid hv; clear hv
  have HC := Lib.hid (fun k => show -9223372036854775808 ≤ cs.getD k 0 ∧ cs.getD k 0 ≤ 9223372036854775807 by
    by_cases hk : k < cs.length
    · have := hcs _ (List.getElem_mem hk); simpa [List.getD, hk] using this
    · simp [List.getD, show cs.length ≤ k by omega])
  clear hcs
  generalize cs.length = n at *
  go_enter Try.func29, Try.ntmps29
  go_wp2_with fail
  go_loopw [5, 6, 7] (fun o c i wr => ∃ (k : Nat) (vs : List Value) (dn : List (List Int)) (cur : List Int), k ≤ n ∧ i = .int .i64 k ∧ ClG wr w.heap.size o c vs dn cur ∧ Below w.heap.size w wr ∧ dn.length ≤ k ∧ cur.length ≤ k ∧ Hid (Good m dn cur k)) (fun _ _ i _ => n - (intOf i).toNat)
  case atStart => exact ⟨0, _, _, _, Nat.zero_le _, rfl, ClG.start w _, Below.refl _ _, Nat.le_refl _, Nat.le_refl _, Good.start m⟩
  case round =>
    obtain ⟨k, vs, dn, cur, hk, rfl, hI, hbr, hl1, hl2, HG0⟩ := hrel
    have hownc := hI.row
    obtain ⟨ac, capc, rfl, hcc1, hcc2⟩ := own_shape hI.row
    unfold maxLen at hcc2
    by_cases hlt : k < n
    · obtain ⟨b, off, ha, hb, hx⟩ := HX.out.resolve_left (by omega)
      subst ha
      have HG := Lib.hid (fun W (h : Below w.heap.size w W) => (h.cell (p := ⟨b, off + k, none⟩) hb).trans (hx k hlt))
      have hbd := HC.out k
      clear hx
      generalize cs.getD k 0 = z at *
      obtain ⟨hz1, hz2⟩ := hbd
      have g1 := HG.out _ hbr
      have N7 := Lib.hid (fun W => number_any z 7 W (by omega) (by omega) hz1 hz2)
      have NB := Lib.hid (fun W => number_big z W hz1 hz2)
      have hx1 := Int.emod_nonneg z (show (1099511627776 : Int) ≠ 0 by omega)
      have hx2 := Int.emod_lt_of_pos z (show (0 : Int) < 1099511627776 by omega)
      have hr1 := Int.emod_nonneg z (show (7 : Int) ≠ 0 by omega)
      generalize z % 7 = r at *
      generalize z % 1099511627776 = x at *
      have LT := Lib.hid (fun (y : Int) W (h1 : -9223372036854775808 ≤ y) (h2 : y ≤ 9223372036854775807) => lit_any y m W (by omega) (by omega) h1 h2)
      have HBR := Lib.hid hbr
      clear hbr
      have hd1 := Int.tdiv_nonneg hx1 (show (0 : Int) ≤ 7 by omega)
      have hd2 := Int.tdiv_le_self 7 hx1
      have hl3 : cur = [] ↔ cur.length = 0 := List.length_eq_zero_iff.symm
      by_cases hr0 : r = 0
      · subst hr0
        by_cases hc0 : cur.length = 0
        · generalize hcl : cur.length = cl at *
          subst hc0
          have HCL := Lib.hid hcl
          clear hl3 hcl
          go_wp2_with (first
            | (go_at_call_of 26 (Value.int IntKind.i64 (7 : Int)); refine (N7.out _).mono ?_; rintro e w' ⟨rfl, rfl⟩)
            | (go_at_call 26; refine (NB.out _).mono ?_; rintro e w' ⟨rfl, rfl⟩)
            | (go_at_call 23; refine (LT.out _ _ (by omega) (by omega)).mono ?_; rintro e w' ⟨rfl, rfl⟩)
            | (at_builtin; refine wpList_app1 rfl _ _ rfl wr w.heap.size _ _ _ _ hownc HBR.out.size (by omega) rfl rfl ?_; intro v' w2 hown2 hap))
          go_roundw
          case rel => exact ⟨k + 1, vs, dn, cur ++ [_], by omega, by go_num, hI.add hap (by rw [HCL.out]; exact hown2), HBR.out.trans hap.below, by omega, by rw [List.length_append, HCL.out, List.length_singleton]; omega, HG0.out.add _ hm1⟩
          case measure => go_light; simp [intOf]; omega
        · have hne : cur ≠ [] := fun e => hc0 (hl3.1 e)
          clear hl3
          generalize hcl : cur.length = cl at *
          have HCL := Lib.hid hcl
          clear hcl
          go_wp2_with (first
            | (go_at_call_of 26 (Value.int IntKind.i64 (7 : Int)); refine (N7.out _).mono ?_; rintro e w' ⟨rfl, rfl⟩)
            | (go_at_call 26; refine (NB.out _).mono ?_; rintro e w' ⟨rfl, rfl⟩)
            | (go_at_call 23; refine (LT.out _ _ (by omega) (by omega)).mono ?_; rintro e w' ⟨rfl, rfl⟩)
            | (at_builtin; refine wpList_appV 25 22 (.slice none 0 0) 24 Try.underlying25 infoInts rfl (by decide) rfl _ _ rfl wr w.heap.size _ _ _ _ rfl hI.out HBR.out.size (by omega) _ rfl rfl rfl ?_; intro o' w2 ho2 hap2; have hI2 := hI.push hap2 ho2; have HB2 := Lib.hid (HBR.out.trans hap2.below); have g2 := HG.out _ HB2.out)
            | (at_builtin; refine wpList_app1 rfl _ _ rfl w2 w.heap.size _ _ _ _ hI2.row HB2.out.size (by simp) rfl rfl ?_; intro v' w3 hown3 hap3))
          go_roundw
          case rel => exact ⟨k + 1, _, _, [] ++ [_], by omega, by go_num, hI2.add hap3 hown3, HB2.out.trans hap3.below, by simp; omega, by simp, (HG0.out.push hne).add _ hm1⟩
          case measure => go_light; simp [intOf]; omega
      · have hr0b : (r == 0) = false := by simp [hr0]
        by_cases hc5 : 5 ≤ cur.length
        · have hne : cur ≠ [] := fun e => by have := hl3.1 e; omega
          clear hl3 hr0
          generalize hcl : cur.length = cl at *
          have HCL := Lib.hid hcl
          clear hcl
          go_wp2_with (first
            | (go_at_call_of 26 (Value.int IntKind.i64 (7 : Int)); refine (N7.out _).mono ?_; rintro e w' ⟨rfl, rfl⟩)
            | (go_at_call 26; refine (NB.out _).mono ?_; rintro e w' ⟨rfl, rfl⟩)
            | (go_at_call 23; refine (LT.out _ _ (by omega) (by omega)).mono ?_; rintro e w' ⟨rfl, rfl⟩)
            | (at_builtin; refine wpList_appV 25 22 (.slice none 0 0) 24 Try.underlying25 infoInts rfl (by decide) rfl _ _ rfl wr w.heap.size _ _ _ _ rfl hI.out HBR.out.size (by omega) _ rfl rfl rfl ?_; intro o' w2 ho2 hap2; have hI2 := hI.push hap2 ho2; have HB2 := Lib.hid (HBR.out.trans hap2.below); have g2 := HG.out _ HB2.out)
            | (at_builtin; refine wpList_app1 rfl _ _ rfl w2 w.heap.size _ _ _ _ hI2.row HB2.out.size (by simp) rfl rfl ?_; intro v' w3 hown3 hap3))
          go_roundw
          case rel => exact ⟨k + 1, _, _, [] ++ [_], by omega, by go_num, hI2.add hap3 hown3, HB2.out.trans hap3.below, by simp; omega, by simp, (HG0.out.push hne).add _ hm1⟩
          case measure => go_light; simp [intOf]; omega
        · clear hl3 hr0
          generalize hcl : cur.length = cl at *
          have HCL := Lib.hid hcl
          clear hcl
          go_wp2_with (first
            | (go_at_call_of 26 (Value.int IntKind.i64 (7 : Int)); refine (N7.out _).mono ?_; rintro e w' ⟨rfl, rfl⟩)
            | (go_at_call 26; refine (NB.out _).mono ?_; rintro e w' ⟨rfl, rfl⟩)
            | (go_at_call 23; refine (LT.out _ _ (by omega) (by omega)).mono ?_; rintro e w' ⟨rfl, rfl⟩)
            | (at_builtin; refine wpList_app1 rfl _ _ rfl wr w.heap.size _ _ _ _ hownc HBR.out.size (by omega) rfl rfl ?_; intro v' w2 hown2 hap))
          go_roundw
          case rel => exact ⟨k + 1, vs, dn, cur ++ [_], by omega, by go_num, hI.add hap (by rw [HCL.out]; exact hown2), HBR.out.trans hap.below, by omega, by rw [List.length_append, HCL.out, List.length_singleton]; omega, HG0.out.add _ hm1⟩
          case measure => go_light; simp [intOf]; omega
    · by_cases hc0 : cur.length = 0
      · have hc0' : cur = [] := List.length_eq_zero_iff.1 hc0
        subst hc0'
        obtain ⟨ao, capo, rfl, hrows⟩ := hI.rows
        have HRW := Lib.hid (show CRow _ _ _ _ from ⟨_, _, _, hI⟩)
        have HBR := Lib.hid hbr
        clear hrows hI hownc hc0 hbr hl2 hcc1 hcc2
        have hkn : k = n := by omega
        subst hkn
        go_wp2_with fail
        go_ret
        exact ⟨⟨_, dn, rfl, HRW.out, HG0.out.last⟩, HBR.out⟩
      · have hne : cur ≠ [] := fun e => hc0 (by rw [e]; rfl)
        have HBR := Lib.hid hbr
        clear hbr
        generalize hcl : cur.length = cl at *
        have HCL := Lib.hid hcl
        clear hcl
        go_wp2_with (at_builtin; refine wpList_appV 25 22 (.slice none 0 0) 24 Try.underlying25 infoInts rfl (by decide) rfl _ _ rfl wr w.heap.size _ _ _ _ rfl hI.out HBR.out.size (by omega) _ rfl rfl rfl ?_; intro o' w2 ho2 hap2; have hI2 := hI.push hap2 ho2; have HB2 := Lib.hid (HBR.out.trans hap2.below); obtain ⟨ao, capo, rfl, hrows⟩ := hI2.rows)
        go_ret
        have hI3 := hI2
        rw [show (dn ++ [cur]).length = dn.length + 1 by simp] at hI3
        exact ⟨⟨_, dn ++ [cur], rfl, ⟨_, _, _, hI3⟩, (HG0.out.push hne).last' hk⟩, HB2.out⟩

end Go.Proofs.Ytjlmooimdogmjaa

namespace Go.Proofs.Ytjlmooimdogmjaa
open Go.RowKit

structure Cel (w : World) (q : Nat) (xs : List Int) : Prop where
  sq : q < w.heap.size
  cells : ∀ i, i < xs.length → w.cell? ⟨q, i, none⟩ = some (.int .i64 (xs.getD i 0))
  free : ∀ i, w.frozen? ⟨q, i, none⟩ = false
theorem Cel.keepB {w w' : World} {q : Nat} {xs : List Int} (h : Cel w q xs) (hs : w.heap.size ≤ w'.heap.size) (h2 : w'.heap[q]? = w.heap[q]?) : Cel w' q xs where
  sq := Nat.lt_of_lt_of_le h.sq hs
  cells := fun i hi => (World.cell?_of_block (a := ⟨q, i, none⟩) h2).trans (h.cells i hi)
  free := fun i => (World.frozen?_of_block (a := ⟨q, i, none⟩) h2).trans (h.free i)
theorem Cel.keep {w w' : World} {q : Nat} {xs : List Int} (h : Cel w q xs) (hb : Below w.heap.size w w') : Cel w' q xs := h.keepB hb.size (hb.block q h.sq)
theorem Cel.other {w w' : World} {q q' : Nat} {xs : List Int} (h : Cel w q xs) (ho : Only q' w w') (hq : q ≠ q') : Cel w' q xs :=
  h.keepB ho.size (ho.block q h.sq (fun e => by injection e with e; exact hq e))
theorem Cel.set {w : World} {q : Nat} {xs : List Int} (h : Cel w q xs) (m : Nat) (x : Int) : Cel (w.setCell ⟨q, m, none⟩ (.int .i64 x)) q (xs.set m x) where
  sq := by simpa [World.setCell] using h.sq
  cells := fun i hi => by
    have hi' : i < xs.length := by simpa using hi
    rw [getD_set]
    by_cases e : m = i
    · subst e
      rw [if_pos ⟨rfl, hi'⟩]
      exact World.cell?_setCell_same (w := w) (h := h.cells m hi') ..
    · rw [if_neg (fun hh => e hh.1), ← h.cells i hi']
      exact World.cell?_setCell_other (w := w) (h := fun hh => e (by injection hh)) ..
  free := fun i => (World.frozen?_setCell _ _ _ _).trans (h.free i)
theorem Cel.of_own {w : World} {B q n : Nat} {xs : List Int} (hown : w.ownsRow B 3 1 (.slice (some ⟨q, 0, none⟩) n n) n (xs.map (Value.int .i64))) (hn : 0 < n) : Cel w q xs := by
  have hl := own_len hown
  obtain ⟨a, c, e, hc1, hc2, hr⟩ := own_row hown
  obtain ⟨b, off, ha, hb, hcell⟩ := hr.resolve_left (by omega)
  injection e with e1 e2 e3
  rw [ha] at e1
  injection e1 with e1
  injection e1 with e4 e5
  subst e4; subst e5
  refine ⟨hb, fun i hi => ?_, fun i => ?_⟩
  · have := hcell i hi
    rwa [Nat.zero_add] at this
  · rcases hown.2 with ⟨e0, _⟩ | ⟨g, cap, cur, e0, _, hg, _⟩
    · cases e0
    · injection e0 with e0 _ _
      injection e0 with e0
      injection e0 with e0
      subst e0
      simp [World.frozen?, hg]
end Go.Proofs.Ytjlmooimdogmjaa
