/- The contract of skolemref.Bytes: a copy. Conditions: the slice reads as bytes, and is not too long. · Contracts of skolemref.SameBytes and skolemref.SameBools. Conditions: the slices read as the lists named ('RowG'). · A circuit in a block of its own ('Cq'), what stays of it; both Reads and both Bytes at a right circuit and its text. Conditions: the errors lie as 'Sents' says; the table of powers of ten is as the program lays it. · The law AagTurned: true for whatever arguments. Conditions: the slice reads as 64-bit ints; the errors lie as 'Sents' says; the table of powers of ten is as the program lays it. -/
import Derived.Test.YtfkodpglgeghlaaDoorAppStr
import Derived.Test.YtfkodpglgeghlaaDoorBits
import Derived.Deep.QuietTactic
import Derived.BigQuiet
import Derived.RegionTactic
import Derived.WalkSmall
import Derived.Deep.Draws
import Derived.Test.YtfkodpglgeghlaaDoorAbM2
import Derived.Test.YtfkodpglgeghlaaDoorRda
import Derived.Test.YtfkodpglgeghlaaDoorAbM1
import Derived.Test.YtfkodpglgeghlaaDoorSmC
import Derived.Test.YtfkodpglgeghlaaDoorFst11
import Derived.ArgAppend
namespace Go.Proofs.YtfkodpglgeghlaaDoor
open Go.RowKit

/-- 'make([]byte, 0, n)'. -/
theorem wpList_make0U {ops : Array Oper} {rest : List Oper} {o : Oper} {a : Act} {Q : Exit → Act → World → Prop} (hgd : o.guard = none) (l c : Operand) (ho : o.op = Op.makeSlice 23 l c)
    (w : World) (n : Nat) (hl : a.eval l = .int .i64 0) (hc : a.eval c = .int .i64 (n : Int)) (hn : n < 1099511627776)
    (h : ∀ w', w'.ownsRow w.heap.size 5 1 (.slice (some ⟨w.heap.size, 0, none⟩) 0 n) 0 (([] : List Int).map (Value.int .u8)) → Below w.heap.size w w' → w.heap.size < w'.heap.size → wpList Tryd.prog ops Q rest (a.put o.dst (.slice (some ⟨w.heap.size, 0, none⟩) 0 n)) w') :
    wpList Tryd.prog ops Q (o :: rest) a w := by
  obtain ⟨i0, hi, hz0, hz1, hz2⟩ := info_parts infoU8
  refine wpList_make_own _ hgd l c 23 ho w.heap.size 5 i0 (.int .u8 0) 1 Tryd.underlying23 hi hz0 hz1 _ _ _ n hl hc rfl (by rw [hz2]; omega) (by unfold maxLen; omega) (Nat.le_refl _) ?_
  intro w' h1 h2
  have hlt := h1.lt w.heap.size rfl
  exact h w' (by simpa using h1) ((Below.refl _ w).grown h2 (Nat.le_refl _) fun k hk => by cases hk) hlt.2

set_option maxHeartbeats 1000000 in
theorem copyB_any (v : Value) (xs : List Int) (w : World) (hv : RowG (Value.int .u8) 0 w v xs) (hn : xs.length ≤ 10000) :
    Calls Tryd.prog 13 #[v] w fun e w' => (∃ v', e = .returned v' ∧ w'.ownsRow w.heap.size 5 1 v' xs.length (xs.map (Value.int .u8))) ∧ Below w.heap.size w w' := by
  obtain ⟨a, c, rfl, hxc, hcm, hx⟩ := hv
  unfold maxLen at hcm
  have HX := Lib.hid hx; clear hx
  generalize hN : xs.length = n at *
  have HN := Lib.hid hN; clear hN
  go_enter Tryd.func13, Tryd.ntmps13
  go_wp2_with (at_make; refine wpList_make0U rfl _ _ rfl _ n rfl rfl (by omega) ?_; intro w1 hown hb1 hs1)
  go_loopw [3, 4] (fun o i wr => ∃ k : Nat, k ≤ n ∧ i = .int .i64 k ∧ wr.ownsRow w.heap.size 5 1 o k ((xs.take k).map (Value.int .u8)) ∧ Below w.heap.size w wr ∧ w.heap.size < wr.heap.size) (fun _ i _ => n - (intOf i).toNat)
  case atStart => exact ⟨0, Nat.zero_le _, rfl, by simpa using hown, hb1, hs1⟩
  case round =>
    obtain ⟨k, hk, rfl, hownr, hbr, hsr⟩ := hrel
    clear hown hb1 hs1
    by_cases hlt : k < n
    · obtain ⟨b, off, ha, hb, hc⟩ := HX.out.resolve_left (by omega)
      subst ha
      have g1 : wr.cell? ⟨b, off + k, none⟩ = some (.int .u8 (xs.getD k 0)) := (hbr.cell (p := ⟨b, off + k, none⟩) hb).trans (hc k hlt)
      clear hc
      have HT := Lib.hid (take_snoc xs k (by rw [HN.out]; exact hlt))
      generalize xs.getD k 0 = y at *
      go_wp2_with (at_builtin; refine wpList_app1G (Value.int .u8) 23 5 (.int .u8 0) 1 Tryd.underlying23 infoU8 rfl (by decide) rfl _ _ rfl wr w.heap.size _ _ _ y rfl hownr (by omega) (by omega) rfl rfl ?_; intro v' w2 hown2 hb3)
      go_roundw
      case rel => exact ⟨k + 1, by omega, by go_num, by rw [HT.out]; exact hown2, hbr.trans hb3.below, Nat.lt_of_lt_of_le hsr hb3.below.size⟩
      case measure => simp [intOf]; omega
    · have hkn : k = n := by omega
      rw [hkn, List.take_of_length_le (by rw [HN.out]; exact Nat.le_refl _)] at hownr
      clear hkn
      go_wp2
      go_ret
      exact ⟨⟨_, rfl, hownr⟩, hbr⟩
end Go.Proofs.YtfkodpglgeghlaaDoor

namespace Go.Proofs.YtfkodpglgeghlaaDoor
open Go.RowKit

theorem below_drawsG {w w' : World} (h : ∃ n, w' = w.drewN n) : Below w.heap.size w w' := by
  obtain ⟨n, rfl⟩ := h
  exact below_drewN (Below.refl _ _) n

set_option maxHeartbeats 1000000 in
theorem sameBytes_any (v u : Value) (xs ys : List Int) (w : World) (hv : RowG (Value.int .u8) 0 w v xs) (hu : RowG (Value.int .u8) 0 w u ys) :
    Calls Tryd.prog 14 #[v, u] w fun e w' => e = .returned (.bool (decide (xs = ys))) ∧ ∃ n, w' = w.drewN n := by
  obtain ⟨a, c, rfl, hxc, hcm, hx⟩ := hv
  obtain ⟨a', c', rfl, hyc, hcm', hy⟩ := hu
  unfold maxLen at hcm hcm'
  by_cases hl : xs.length = ys.length
  · rw [← hl]
    rw [← hl] at hy hyc
    by_cases h0 : xs.length = 0
    · have hxe : xs = [] := List.eq_nil_of_length_eq_zero h0
      have hye : ys = [] := List.eq_nil_of_length_eq_zero (by omega)
      subst hxe; subst hye
      clear hx hy hl h0
      go_enter Tryd.func14, Tryd.ntmps14
      go_wp2
      refine wp_loop_rounds 1 ?_
      rw [rounds_succ]
      go_wp2
      go_ret
      exact ⟨by simp, 0, rfl⟩
    · obtain ⟨b, off, rfl, hb, hx⟩ := hx.resolve_left h0
      obtain ⟨b', off', rfl, hb', hy⟩ := hy.resolve_left h0
      have HX := Lib.hid hx; clear hx
      have HY := Lib.hid hy; clear hy
      have HL := Lib.hid hl; clear hl
      generalize hn : xs.length = n at *
      have HN := Lib.hid hn; clear hn
      have hne : ((n : Int) != (n : Int)) = false := by simp
      go_enter Tryd.func14, Tryd.ntmps14
      go_wp2
      go_loopw [5, 6] (fun i _ wr => ∃ k q : Nat, k ≤ n ∧ i = .int .i64 k ∧ wr = w.drewN q ∧ Hid (∀ j, j < k → xs.getD j 0 = ys.getD j 0)) (fun i _ _ => n - (intOf i).toNat)
      case atStart => exact ⟨0, 0, Nat.zero_le _, rfl, rfl, fun j hj => absurd hj (Nat.not_lt_zero _)⟩
      case round =>
        obtain ⟨k, q, hk, rfl, rfl, HQ⟩ := hrel
        by_cases hlt : k < n
        · have g1 : w.cell? ⟨b, off + k, none⟩ = some ((Value.int .u8) (xs.getD k 0)) := HX.out k hlt
          have g2 : w.cell? ⟨b', off' + k, none⟩ = some ((Value.int .u8) (ys.getD k 0)) := HY.out k hlt
          generalize hxk : xs.getD k 0 = x at g1
          generalize hyk : ys.getD k 0 = y at g2
          have HXY := Lib.hid (And.intro hxk hyk); clear hxk hyk
          by_cases he : x = y
          · subst he
            go_wp2
            go_quiet (fail)
            go_wp2
            go_roundw
            case rel =>
              refine ⟨k + 1, _, by omega, by go_num, rfl, fun j hj => ?_⟩
              by_cases e : j = k
              · rw [e, HXY.out.1, HXY.out.2]
              · exact HQ.out j (by omega)
            case measure => simp [intOf]; omega
          · have heb : (x == y) = false := by simp [he]
            go_wp2
            go_quiet (fail)
            go_wp2
            go_ret
            refine ⟨ret_bool ?_, _, rfl⟩
            have : xs ≠ ys := fun e => he (by rw [← HXY.out.1, ← HXY.out.2, e])
            simp [this]
        · have hkn : k = n := by omega
          have hall : xs = ys := getD_extG (d := 0) (by rw [HN.out]; exact HL.out) (fun j hj => HQ.out j (by rw [HN.out] at hj; omega))
          have HA := Lib.hid hall; clear hall
          subst hkn
          go_wp2
          go_ret
          exact ⟨ret_bool (by simp [HA.out]), _, rfl⟩
  · have hne : (!((xs.length : Int) == (ys.length : Int))) = true := by simp; omega
    have hne' : ((xs.length : Int) == (ys.length : Int)) = false := by simp; omega
    have hxy : decide (xs = ys) = false := by
      simp; intro e; exact hl (by rw [e])
    have HD := Lib.hid hxy; clear hxy
    clear hx hy
    generalize xs.length = n at *
    generalize ys.length = m at *
    generalize decide (xs = ys) = d at *
    go_enter Tryd.func14, Tryd.ntmps14
    go_wp2
    go_ret
    exact ⟨ret_bool HD.out.symm, 0, rfl⟩

end Go.Proofs.YtfkodpglgeghlaaDoor

namespace Go.Proofs.YtfkodpglgeghlaaDoor
open Go.RowKit

theorem bb_step {w0 W W' : World} (h : Below w0.heap.size w0 W) (hb : Below W.heap.size W W') : Below w0.heap.size w0 W' := h.trans (hb.mono h.size)
/-- A circuit's cells at block q, its rows. -/
structure Cq (W : World) (q : Nat) (n : Int) (u v : Value) (ps : List (Int × Int)) (os : List Int) : Prop where
  c0 : W.cell? ⟨q, 0, none⟩ = some (.int .i64 n)
  c1 : W.cell? ⟨q, 1, none⟩ = some u
  c2 : W.cell? ⟨q, 2, none⟩ = some v
  U : PRow W u ps
  V : Row W v os
  lt : q < W.heap.size
theorem Cq.keep {W W' : World} {q : Nat} {n : Int} {u v : Value} {ps : List (Int × Int)} {os : List Int} (h : Cq W q n u v ps os) (hb : Below W.heap.size W W') : Cq W' q n u v ps os :=
  ⟨(hb.cell (p := ⟨q, 0, none⟩) h.lt).trans h.c0, (hb.cell (p := ⟨q, 1, none⟩) h.lt).trans h.c1, (hb.cell (p := ⟨q, 2, none⟩) h.lt).trans h.c2, h.U.keep hb, h.V.keep hb, Nat.lt_of_lt_of_le h.lt hb.size⟩
theorem Cq.new {w : World} {n : Int} {u v : Value} {ps : List (Int × Int)} {os : List Int} (T : TypeId) (hu : PRow w u ps) (hv : Row w v os) : Cq (w.alloc (.cells #[.int .i64 n, u, v] T)) w.heap.size n u v ps os := by
  have hb : Below w.heap.size w (w.alloc (.cells #[.int .i64 n, u, v] T)) := (Below.refl _ w).alloc (Nat.le_refl _) _
  refine ⟨?_, ?_, ?_, hu.keep hb, hv.keep hb, by simp⟩
  · rw [World.cell?_alloc_at _ _ _ _ rfl]; rfl
  · rw [World.cell?_alloc_at _ _ _ _ rfl]; rfl
  · rw [World.cell?_alloc_at _ _ _ _ rfl]; rfl
theorem RightC.bd {i : Nat} {ps : List (Int × Int)} {os : List Int} (h : RightC i ps os) : (∀ x ∈ ps, (0 ≤ x.1 ∧ x.1 < 1000000000) ∧ 0 ≤ x.2 ∧ x.2 < 1000000000) ∧ ∀ o ∈ os, 0 ≤ o ∧ o < 1000000000 := by
  obtain ⟨h1, h2, h3, h4⟩ := h
  refine ⟨fun x hx => ?_, fun o ho => by have := h4 o ho; omega⟩
  obtain ⟨j, hj, rfl⟩ := List.getElem_of_mem hx
  have := h3 j hj
  simp only [List.getD, List.getElem?_eq_getElem hj, Option.getD_some] at this
  omega
theorem textA_len {i : Nat} {ps : List (Int × Int)} {os : List Int} (h : RightC i ps os) (hi : i ≤ 40) (hp : ps.length ≤ 60) (ho : os.length ≤ 30) : (textA i ps os).length ≤ 3000 := by
  obtain ⟨b1, b2⟩ := h.bd
  have h1 := insT_len i (by omega)
  have h2 := outsT_len os b2
  have h3 := gatesT_len i (by omega) ps 0 (by omega) b1
  have h4 := lineL_len [(i : Int) + (ps.length : Int), (i : Int), 0, (os.length : Int), (ps.length : Int)] (by intro n hn; simp at hn; omega)
  unfold textA headT
  simp only [List.length_append, List.length_cons, List.length_nil] at h4 ⊢
  omega
theorem textA_bts (i : Nat) (ps : List (Int × Int)) (os : List Int) : Bts (textA i ps os) := by
  have hl : ∀ ns : List Int, Bts (lineL ns) := fun ns x hx => by
    unfold lineL bodyL at hx
    rcases List.mem_append.1 hx with hx | hx
    · have := List.mem_of_mem_drop hx
      obtain ⟨n, _, hn⟩ := List.mem_flatMap.1 this
      rcases List.mem_cons.1 hn with rfl | hn
      · omega
      · exact (tok_itoa n).2 x hn
    · have e := List.mem_singleton.1 hx; subst e; omega
  unfold textA headT
  refine Bts.append (Bts.append (Bts.append (Bts.append ?_ (hl _)) ?_) ?_) ?_
  · intro x hx; simp at hx; omega
  · intro x hx
    unfold insT at hx
    obtain ⟨j, _, hj⟩ := List.mem_flatMap.1 hx
    exact hl _ x hj
  · intro x hx
    unfold outsT at hx
    obtain ⟨j, _, hj⟩ := List.mem_flatMap.1 hx
    exact hl _ x hj
  · have : ∀ (ps : List (Int × Int)) (k : Nat), Bts (gatesT i k ps) := fun ps => by
      induction ps with
      | nil => intro k x hx; cases hx
      | cons y ps ih => intro k; rw [gatesT]; exact (hl _).append (ih (k + 1))
    exact this ps 0
/-- What Read answers where it takes the text. -/
def GotP (w : World) (n : Int) (ps : List (Int × Int)) (os : List Int) (r : Ending) (w' : World) : Prop :=
  (∃ u v, r = .returned (.tuple #[circV n u v, .nilIface]) ∧ PRow w' u ps ∧ Row w' v os) ∧ Below w.heap.size w w'
/-- What Read answers where it does not. -/
def NotP (A : Nat → Addr) (w : World) (f : Bool) (k : Int) (r : Ending) (w' : World) : Prop :=
  (∃ ev, r = .returned (.tuple #[circV 0 (.slice none 0 0) (.slice none 0 0), ev]) ∧ AtB A w.heap.size w' ev k (if f = true then 1 else 0)) ∧ Below w.heap.size w w'
theorem read_got {A : Nat → Addr} {w : World} {P : Program} {f : Nat} {args : Array Value} {R : Res} {n : Int} {ps : List (Int × Int)} {os : List Int} (h : Calls P f args w (ReadP A w R)) (hR : R = ((n, ps, os), none)) : Calls P f args w (GotP w n ps os) := by
  refine h.mono ?_
  rintro e w' ⟨⟨u, v, ev, h1, h2, h3, h4⟩, h5⟩
  rw [hR] at h1 h2 h3 h4
  have h6 : ev = .nilIface := h4
  subst h6
  exact ⟨⟨u, v, h1, h2, h3⟩, h5⟩
theorem sameCir_one (n : Int) (u v u' v' : Value) (ps : List (Int × Int)) (os : List Int) (w : World) (h1 : PRow w u ps) (h2 : Row w v os) (h3 : PRow w u' ps) (h4 : Row w v' os) :
    Calls Tryd.prog 16 #[circV n u v, circV n u' v'] w fun e w' => e = .returned (.bool true) ∧ Below w.heap.size w w' := by
  have := sameCir_any n n u v u' v' ps ps os os w h1 h2 h3 h4
  simpa using this
/-- A text just made. -/
theorem text_row {w : World} {B : Nat} {v : Value} {n : Nat} {xs : List Int} (h : w.ownsRow B 5 1 v n (xs.map (Value.int .u8))) : ∃ a c, v = .slice a xs.length c ∧ RowG (Value.int .u8) 0 w (.slice a xs.length c) xs := by
  obtain ⟨a, c, rfl, h2⟩ := own_rowG h
  exact ⟨a, c, rfl, a, c, rfl, h2⟩
end Go.Proofs.YtfkodpglgeghlaaDoor

namespace Go.Proofs.YtfkodpglgeghlaaDoor
open Go.RowKit

/-- 'append(v, y...)', v the bytes of a constant: they do not fit. -/
theorem wpList_appConstM {ops : Array Oper} {rest : List Oper} {o : Oper} {a : Act} {Q : Exit → Act → World → Prop} (hgd : o.guard = none) (s x : Operand)
    (ho : o.op = .call { callee := .builtin .append, args := #[s, x], argTypes := #[23, 23] })
    (w : World) (g n : Nat) (xs : List Int) (hl : xs.length = n) (hn : n ≤ 1000) (hc : ∀ j v, (xs.map (Value.int .u8))[j]? = some v → w.cell? ⟨g, j, none⟩ = some v)
    (ao : Option Addr) (m c : Nat) (ys : List Int) (hy : RowG (Value.int .u8) 0 w (.slice ao m c) ys) (hm : ys.length = m) (h0 : 0 < m) (hm2 : m ≤ 100000)
    (hs : a.eval s = .slice (some ⟨g, 0, none⟩) n n) (hx : a.eval x = .slice ao m c)
    (h : ∀ v' w', w'.ownsRow w.heap.size 5 1 v' (n + m) ((xs ++ ys).map (Value.int .u8)) → Below w.heap.size w w' → wpList Tryd.prog ops Q rest (a.put o.dst v') w') :
    wpList Tryd.prog ops Q (o :: rest) a w := by
  obtain ⟨i0, hi, hz0, hz1, hz2⟩ := info_parts infoU8
  obtain ⟨a', c', e, _, _, h3⟩ := hy
  injection e with e1 e2 e3
  obtain ⟨b, off, e4, _, hcy⟩ := h3.resolve_left (by omega)
  rw [← e1] at e4
  subst e4
  refine wpList_append_grows _ hgd s x 23 ho 5 i0 (.int .u8 0) 1 1 Tryd.underlying23 hi hz0 hz1 hz2 rfl (by decide) (some ⟨g, 0, none⟩) n n (xs.map (Value.int .u8)) hs (fun e => by cases e) (by simp [hl]) (fun b' hb j u hj => ?_) ⟨b, off, none⟩ m c (ys.map (Value.int .u8)) hx (by simp [hm]) (fun j u hj => ?_) (fun u hu => ?_) (by omega) (by unfold maxLen; omega) (by omega) ?_
  · obtain rfl := Option.some.inj hb
    rw [add0]
    exact hc j u hj
  · have hjl : j < ys.length := by
      have := (List.getElem?_eq_some_iff.1 hj).1
      simpa using this
    rw [show (⟨b, off, none⟩ : Addr).add j = ⟨b, off + j, none⟩ by unfold Addr.add; split <;> simp_all, hcy j hjl]
    rw [List.getElem?_map] at hj
    simpa [List.getD, hjl] using hj
  · obtain ⟨z, _, rfl⟩ := List.mem_map.1 hu
    rfl
  · intro v' w' h2 h3
    refine h v' w' ?_ ((Below.refl _ w).grown h3 (Nat.le_refl _) (fun k hk => by cases hk))
    rw [List.map_append]
    exact h2

set_option maxRecDepth 8000 in
set_option maxHeartbeats 4000000 in
theorem lawAt_out (A : Nat → Addr) (i k : Int) (a1 : Option Addr) (c1 m1 : Nat) (w : World) (hS : Sents w A) (ht : Tabs w) (ho : 40 < m1 ∨ i < 1 ∨ 9 < i) :
    Calls Tryd.prog 8 #[.int .i64 i, .slice a1 m1 c1, .int .i64 k] w fun e w' => e = .returned (.bool true) ∧ Below w.heap.size w w' := by
  have HF := Lib.hid (first11_any A w hS ht)
  clear hS ht
  by_cases d1 : 40 < m1
  · have d1' : decide ((40 : Int) < (m1 : Int)) = true := decide_eq_true (by omega)
    clear ho
    go_enter Tryd.func8, Tryd.ntmps8
    go_wp2_with (go_at_call 23; refine HF.out.mono ?_; rintro e w1 ⟨rfl, hb1⟩)
    go_ret
    exact ⟨rfl, hb1⟩
  have d1' : decide ((40 : Int) < (m1 : Int)) = false := decide_eq_false (by omega)
  by_cases d4 : i < 1
  · clear ho
    go_enter Tryd.func8, Tryd.ntmps8
    go_wp2_with (go_at_call 23; refine HF.out.mono ?_; rintro e w1 ⟨rfl, hb1⟩)
    go_ret
    exact ⟨rfl, hb1⟩
  · have d5 : 9 < i := by omega
    clear ho
    go_enter Tryd.func8, Tryd.ntmps8
    go_wp2_with (go_at_call 23; refine HF.out.mono ?_; rintro e w1 ⟨rfl, hb1⟩)
    go_ret
    exact ⟨rfl, hb1⟩
/-- A row of one int just laid. -/
theorem row_one (w : World) (y : Int) : Row (w.alloc (.cells #[.int .i64 y] 3)) (.slice (some ⟨w.heap.size, 0, none⟩) 1 1) [y] := by
  refine ⟨some ⟨w.heap.size, 0, none⟩, 1, rfl, Nat.le_refl _, by unfold maxLen; omega, .inr ⟨w.heap.size, 0, rfl, by simp, fun i hi => ?_⟩⟩
  have e : i = 0 := by simpa using hi
  subst e
  rw [World.cell?_alloc_at _ _ _ _ rfl]; rfl
/-- What Read answers where it does not take the text. -/
def BadP (A : Nat → Addr) (w : World) (k : Int) (r : Ending) (w' : World) : Prop :=
  (∃ a c a' c' ev, r = .returned (.tuple #[circV 0 (.slice a 0 c) (.slice a' 0 c'), ev]) ∧ OutF A w.heap.size w' ev (some (false, k))) ∧ Below w.heap.size w w'
theorem read_bad {A : Nat → Addr} {w : World} {P : Program} {f : Nat} {args : Array Value} {R : Res} {k : Int} (h : Calls P f args w (ReadP A w R)) (hR : R = badC (false, k)) : Calls P f args w (BadP A w k) := by
  refine h.mono ?_
  rintro e w' ⟨⟨u, v, ev, h1, h2, h3, h4⟩, h5⟩
  rw [hR] at h1 h2 h3 h4
  obtain ⟨a, c, rfl, _⟩ := h2
  obtain ⟨a', c', rfl, _⟩ := h3
  exact ⟨⟨a, c, a', c', ev, h1, h4⟩, h5⟩
theorem textA_five (i : Nat) (ps : List (Int × Int)) (os : List Int) : 5 ≤ (textA i ps os).length := by
  obtain ⟨A, d, hA, _⟩ := ends_text i ps os
  obtain ⟨T, hT⟩ := textA_cons i ps os
  have h1 := congrArg List.length hA
  rw [hT] at hA h1
  rcases T with _ | ⟨x, T⟩
  · exfalso
    have := congrArg (fun l => l.getLast?) hA
    simp at this
  · rw [hT]; simp

set_option maxRecDepth 8000 in
set_option maxHeartbeats 8000000 in
theorem lawAt_in (A : Nat → Addr) (N : Nat) (k : Int) (a1 : Option Addr) (c1 : Nat) (ls : List Int) (w : World) (hS : Sents w A) (ht : Tabs w)
    (hl : RowAt w a1 c1 ls) (hlb : ∀ y ∈ ls, in64 y) (e1 : ¬ 40 < ls.length) (e4 : ¬ (N : Int) < 1) (e5 : ¬ (9 : Int) < (N : Int)) (hk64 : in64 k) :
    Calls Tryd.prog 8 #[.int .i64 (N : Int), .slice a1 ls.length c1, .int .i64 k] w fun e w' => e = .returned (.bool true) ∧ Below w.heap.size w w' := by
  have d1 : decide ((40 : Int) < (ls.length : Int)) = false := decide_eq_false (by omega)
  have HF := Lib.hid (first11_any A w hS ht)
  have HMK := Lib.hid (fun W v (hW : Below w.heap.size w W) (hv : Row W v [2]) => mkc_any N (.slice a1 ls.length c1) v ls [2] W (Row.keep ⟨a1, c1, rfl, hl⟩ hW) hv (by omega) (by omega) (by simp) hlb (by intro y hy; simp at hy; subst hy; unfold in64; omega))
  have HSN := Lib.hid (fun W (hW : Below w.heap.size w W) => hS.keep hW)
  have HTN := Lib.hid (fun W (hW : Below w.heap.size w W) => ht.keep hW)
  have HE := Lib.hid (And.intro e1 e5)
  clear hS ht hl hlb e1
  generalize hn1 : ls.length = n1 at *
  clear hn1
  go_enter Tryd.func8, Tryd.ntmps8
  go_wp2_with fail
  refine HF.out.mono ?_
  rintro e w1 ⟨rfl, hb1⟩
  have HB1 := Lib.hid (bb_step hb1 ((Below.refl _ w1).alloc (Nat.le_refl _) (.cells #[.int .i64 2] 3)))
  have HR1 := Lib.hid (row_one w1 2)
  clear hb1 HF
  go_wp2_with fail
  refine (HMK.out _ _ HB1.out HR1.out).mono ?_
  rintro e w2 ⟨⟨u, v, ps, os, rfl, hU, hV, hR, hpl, hol⟩, hb2⟩
  have HB2 := Lib.hid (bb_step HB1.out hb2)
  have HR := Lib.hid hR
  have hol1 : os.length = 1 := by simpa using hol
  have HLN : Hid ((textA N ps os).length ≤ 3000) := textA_len hR (by omega) (by have := HE.out; omega) (by omega)
  have HPO : Hid (ps.length ≤ 1000 ∧ os.length ≤ 1000) := by unfold Hid; have := HE.out; omega
  obtain ⟨au, cu, rfl, hu⟩ := hU
  obtain ⟨av, cv, rfl, hv⟩ := hV
  have HC := Lib.hid (Cq.new (n := (N : Int)) 27 (⟨au, cu, rfl, hu⟩ : PRow w2 (.slice au ps.length cu) ps) (⟨av, cv, rfl, hv⟩ : Row w2 (.slice av os.length cv) os))
  have HB3 := Lib.hid (bb_step HB2.out ((Below.refl _ w2).alloc (Nat.le_refl _) (.cells #[.int .i64 (N : Int), .slice au ps.length cu, .slice av os.length cv] 27)))
  clear hb2 hu hv hR HMK HB1 hpl hol hol1
  unfold circV
  go_wp2_with fail
  have hbd := HR.out.bd
  refine (byt_any N _ _ ps os _ HC.out.U HC.out.V (by omega) HPO.out.1 HPO.out.2 hbd.1 hbd.2 (HTN.out _ HB3.out)).mono ?_
  rintro e w4 ⟨vb, rfl, hown4, hb4⟩
  obtain ⟨ab, cb, rfl, hrw4⟩ := text_row hown4
  have HRW4 := Lib.hid hrw4
  have HB4 := Lib.hid (bb_step HB3.out hb4)
  have HC4 := Lib.hid (HC.out.keep hb4)
  have HBT := Lib.hid (textA_bts N ps os)
  have HR7 := Lib.hid (fun e => readR_seven e N ps os HR.out)
  have HRS := Lib.hid (fun e => readR_sp e N ps os)
  have HRX := Lib.hid (fun e => readR_x e N ps os)
  have HRT := Lib.hid (fun e m => readR_cut e N ps os m)
  have h5 := textA_five N ps os
  clear hown4 hb4 hrw4 hbd HC HB3 HR HPO
  generalize textA N ps os = T at *
  have HD7 := Lib.hid (fun W v (hW : Below w.heap.size w W) (hv : RowG (Value.int .u8) 0 W v (T ++ [55, 10])) => read_bad (readA_any A v (T ++ [55, 10]) W (HSN.out W hW) hv (HBT.out.append (by intro x hx; simp at hx; omega)) (by rw [List.length_append]; simp only [List.length_cons, List.length_nil]; have := HLN.out; omega)) (HR7.out _))
  have HDS := Lib.hid (fun W v (hW : Below w.heap.size w W) (hv : RowG (Value.int .u8) 0 W v ([32, 120, 32] ++ T)) => read_bad (readA_any A v ([32, 120, 32] ++ T) W (HSN.out W hW) hv (Bts.append (by intro x hx; simp at hx; omega) HBT.out) (by rw [List.length_append]; simp only [List.length_cons, List.length_nil]; have := HLN.out; omega)) (HRS.out _))
  have HDX := Lib.hid (fun W v (hW : Below w.heap.size w W) (hv : RowG (Value.int .u8) 0 W v ([120] ++ T)) => read_bad (readA_any A v ([120] ++ T) W (HSN.out W hW) hv (Bts.append (by intro x hx; simp at hx; omega) HBT.out) (by rw [List.length_append]; simp only [List.length_cons, List.length_nil]; have := HLN.out; omega)) (HRX.out _))
  have HDT := Lib.hid (fun W v m (hW : Below w.heap.size w W) (hv : RowG (Value.int .u8) 0 W v (T.take m)) => readA_any A v (T.take m) W (HSN.out W hW) hv (HBT.out.take m) (by rw [List.length_take]; have := HLN.out; omega))
  clear HR7 HRS HRX HBT
  generalize hnT : T.length = nT at *
  have HNT := Lib.hid hnT
  have hlT : nT ≤ 3000 := HLN.out
  clear hnT HLN
  have HCP := Lib.hid (copyB_any _ T _ HRW4.out (by have := HNT.out; omega))
  go_wp2_with fail
  refine HCP.out.mono ?_
  rintro e w6 ⟨⟨v6, rfl, hown6⟩, hb6⟩
  rw [HNT.out] at hown6
  have HO6 := Lib.hid hown6
  have hs6 : w4.heap.size ≤ w6.heap.size := hb6.size
  have HB6 := Lib.hid hb6
  obtain ⟨a6, c6, rfl, _, _⟩ := own_shape hown6
  have HKP : Hid (∀ W, Below w4.heap.size w4 W → Cq W w2.heap.size N (.slice au ps.length cu) (.slice av os.length cv) ps os ∧ RowG (Value.int .u8) 0 W (.slice ab nT cb) T ∧ Below w.heap.size w W ∧ Sents W A) := fun W hW => ⟨HC4.out.keep hW, HRW4.out.keep hW, bb_step HB4.out hW, HSN.out _ (bb_step HB4.out hW)⟩
  clear hown6 hb6 HC4 HRW4 HB4 HCP HSN HTN
  go_wp2_with (at_builtin; refine wpList_appStr rfl _ _ rfl w6 w4.heap.size _ nT T [55, 10] (by intro x hx; simp at hx; omega) HO6.out hs6 (by simp; omega) rfl rfl ?_; intro v7 w7 hown7 hb7; have HO7 := Lib.hid hown7; have HB7 := Lib.hid (HB6.out.trans hb7); obtain ⟨a7, c7, rfl, _, _⟩ := own_shape hown7; clear hown7 hb7)
  refine (HD7.out w7 _ (HKP.out _ HB7.out).2.2.1 (own_rowG (d := (0 : Int)) HO7.out)).mono ?_
  rintro e w8 ⟨⟨x8, y8, z8, t8, ev8, rfl, hO8⟩, hb8⟩
  have HE8 := Lib.hid (hO8.err (HKP.out _ (bb_step HB7.out hb8)).2.2.2)
  have hal : Below w8.heap.size w8 (w8.alloc (.cells #[.int .i64 0, .slice x8 0 y8, .slice z8 0 t8] 27)) := (Below.refl _ w8).alloc (Nat.le_refl _) _
  have hba := bb_step (bb_step HB7.out hb8) hal
  have hq8 := hal
  generalize hA : w8.alloc (.cells #[.int .i64 0, .slice x8 0 y8, .slice z8 0 t8] 27) = wA1 at *
  have HBA1 := Lib.hid hba
  have kc := Lib.run_convert_bytes_const (P := Tryd.prog) wA1 23 5 #[.int .u8 32, .int .u8 120, .int .u8 32] 3 3 Tryd.underlying23 Tryd.underlying5
  have hbk : Below wA1.heap.size wA1 (wA1.alloc (.cells #[.int .u8 32, .int .u8 120, .int .u8 32] 5 (3, 4))) := (Below.refl _ _).alloc (Nat.le_refl _) _
  have HBK1 := Lib.hid (bb_step hba hbk)
  have HP8_1 := Lib.hid (bb_step hq8 hbk)
  have HCE : Hid (∀ j v, (([32, 120, 32] : List Int).map (Value.int .u8))[j]? = some v → (wA1.alloc (.cells #[.int .u8 32, .int .u8 120, .int .u8 32] 5 (3, 4))).cell? ⟨wA1.heap.size, j, none⟩ = some v) := fun j v hj => by
    rw [World.cell?_alloc_mark]
    simpa using hj
  have HRT1 := Lib.hid (HKP.out _ HBK1.out).2.1
  clear hal hba hbk hb8 hq8
  unfold circV
  go_wp2_with (at_builtin; refine wpList_appConstM rfl _ _ rfl (wA1.alloc (.cells #[.int .u8 32, .int .u8 120, .int .u8 32] 5 (3, 4))) wA1.heap.size 3 [32, 120, 32] rfl (by omega) HCE.out ab nT cb T HRT1.out HNT.out (by omega) (by omega) rfl rfl ?_; intro v9 w9 hown9 hb9; have HO9 := Lib.hid hown9; have HB9 := Lib.hid (bb_step HBK1.out hb9); have HR8_1 := Lib.hid (bb_step HP8_1.out hb9); obtain ⟨a9, c9, rfl, _, _⟩ := own_shape hown9; clear hown9 hb9)
  clear hA kc HCE
  refine (HDS.out w9 _ (HKP.out _ HB9.out).2.2.1 (own_rowG (d := (0 : Int)) HO9.out)).mono ?_
  rintro e w10 ⟨⟨x10, y10, z10, t10, ev10, rfl, hO10⟩, hb10⟩
  have HE10 := Lib.hid (hO10.err (HKP.out _ (bb_step HB9.out hb10)).2.2.2)
  have HQ8 := Lib.hid (bb_step HR8_1.out hb10)
  have hal : Below w10.heap.size w10 (w10.alloc (.cells #[.int .i64 0, .slice x10 0 y10, .slice z10 0 t10] 27)) := (Below.refl _ w10).alloc (Nat.le_refl _) _
  have hba := bb_step (bb_step HB9.out hb10) hal
  have hq8 := bb_step HQ8.out hal
  have hq10 := hal
  generalize hA : w10.alloc (.cells #[.int .i64 0, .slice x10 0 y10, .slice z10 0 t10] 27) = wA2 at *
  have HBA2 := Lib.hid hba
  have kc := Lib.run_convert_bytes_const (P := Tryd.prog) wA2 23 5 #[.int .u8 120] 1 1 Tryd.underlying23 Tryd.underlying5
  have hbk : Below wA2.heap.size wA2 (wA2.alloc (.cells #[.int .u8 120] 5 (1, 2))) := (Below.refl _ _).alloc (Nat.le_refl _) _
  have HBK2 := Lib.hid (bb_step hba hbk)
  have HP8_2 := Lib.hid (bb_step hq8 hbk)
  have HP10_2 := Lib.hid (bb_step hq10 hbk)
  have HCE : Hid (∀ j v, (([120] : List Int).map (Value.int .u8))[j]? = some v → (wA2.alloc (.cells #[.int .u8 120] 5 (1, 2))).cell? ⟨wA2.heap.size, j, none⟩ = some v) := fun j v hj => by
    rw [World.cell?_alloc_mark]
    simpa using hj
  have HRT2 := Lib.hid (HKP.out _ HBK2.out).2.1
  clear hal hba hbk hb10 hq8 hq10
  unfold circV
  go_wp2_with (at_builtin; refine wpList_appConstM rfl _ _ rfl (wA2.alloc (.cells #[.int .u8 120] 5 (1, 2))) wA2.heap.size 1 [120] rfl (by omega) HCE.out ab nT cb T HRT2.out HNT.out (by omega) (by omega) rfl rfl ?_; intro v11 w11 hown11 hb11; have HO11 := Lib.hid hown11; have HB11 := Lib.hid (bb_step HBK2.out hb11); have HR8_2 := Lib.hid (bb_step HP8_2.out hb11); have HR10_2 := Lib.hid (bb_step HP10_2.out hb11); obtain ⟨a11, c11, rfl, _, _⟩ := own_shape hown11; clear hown11 hb11)
  clear hA kc HCE
  refine (HDX.out w11 _ (HKP.out _ HB11.out).2.2.1 (own_rowG (d := (0 : Int)) HO11.out)).mono ?_
  rintro e w12 ⟨⟨x12, y12, z12, t12, ev12, rfl, hO12⟩, hb12⟩
  have HE12 := Lib.hid (hO12.err (HKP.out _ (bb_step HB11.out hb12)).2.2.2)
  have HQ8 := Lib.hid (bb_step HR8_2.out hb12)
  have HQ10 := Lib.hid (bb_step HR10_2.out hb12)
  have hal : Below w12.heap.size w12 (w12.alloc (.cells #[.int .i64 0, .slice x12 0 y12, .slice z12 0 t12] 27)) := (Below.refl _ w12).alloc (Nat.le_refl _) _
  have HB13 := Lib.hid (bb_step (bb_step HB11.out hb12) hal)
  have HE13a := Lib.hid (HE8.out.keep (bb_step HQ8.out hal))
  have HE13b := Lib.hid (HE10.out.keep (bb_step HQ10.out hal))
  have HE13c := Lib.hid (HE12.out.keep hal)
  generalize hA : w12.alloc (.cells #[.int .i64 0, .slice x12 0 y12, .slice z12 0 t12] 27) = w13 at *
  clear hal hb12 HQ8 HQ10 HE8 HE10 HE12 HO6 HO7 HO9 HO11 HB6 HB7 HB9 HB11 HBA1 HBA2 HBK1 HBK2 HRT1 HRT2 HD7 HDS HDX HR8_1 HR8_2 HR10_2 HP8_1 HP8_2 HP10_2 HB2
  have hcb : nT ≤ cb := by obtain ⟨a9, c9, e9, h9, _⟩ := (HKP.out _ HB13.out).2.1; injection e9 with _ _ e9; have := HNT.out; omega
  unfold circV
  have HRDT : Hid (∀ m : Nat, m + 1 < nT → ((0 : Nat) < T.length) → RowG (Value.int .u8) 0 w13 (.slice ab m cb) (T.take m)) := fun m hm h0 => by
    obtain ⟨a9, c9, e9, h9, h10, h11⟩ := (HKP.out _ HB13.out).2.1
    injection e9 with q1 q2 q3
    have hl : (T.take m).length = m := by rw [List.length_take]; have := HNT.out; omega
    refine ⟨ab, cb, by rw [hl], by rw [hl]; omega, by omega, ?_⟩
    rcases h11 with h11 | ⟨b, off, e, hb, hc⟩
    · omega
    · refine .inr ⟨b, off, by rw [q1, e], hb, fun i hi => ?_⟩
      rw [hc i (by omega)]
      refine congrArg (fun z => some (Value.int IntKind.u8 z)) ?_
      rw [hl] at hi
      simp [List.getD, hi]
  have HDV : Hid (∀ m : Nat, m + 1 < nT → Calls Tryd.prog 21 #[.slice ab m cb] w13 (ReadP A w13 (readR ((T.take m).length : Int) (wordsL false (T.take m)))) ∧ readR ((T.take m).length : Int) (wordsL false (T.take m)) ≠ (((N : Int), ps, os), none)) := fun m hm => ⟨HDT.out w13 _ m (HKP.out _ HB13.out).2.2.1 (HRDT.out m hm (by have := HNT.out; omega)), HRT.out _ m (by have := HNT.out; omega)⟩
  have HTM : Hid (∀ K : Nat, ∃ m : Nat, (K : Int).tmod ((nT : Int) - 1) = (m : Int) ∧ m + 1 < nT) := fun K => by
    have h1 : (K : Int).tmod ((nT : Int) - 1) = (K : Int) % ((nT : Int) - 1) := Int.tmod_eq_emod_of_nonneg (by omega)
    have h2 := Int.emod_nonneg (K : Int) (show ((nT : Int) - 1) ≠ 0 by omega)
    have h3 := Int.emod_lt_of_pos (K : Int) (show (0 : Int) < (nT : Int) - 1 by omega)
    exact ⟨((K : Int).tmod ((nT : Int) - 1)).toNat, by rw [h1]; omega, by rw [h1]; omega⟩
  clear HDT HRT HRDT
  by_cases hk : k < 0
  · obtain ⟨K, hK⟩ : ∃ K : Nat, wrap64 (-wrap64 (k + 1)) = (K : Int) := ⟨(-(k + 1)).toNat, by
      unfold in64 at hk64
      rw [IntWalk.wrap64_in (k + 1) (by omega), IntWalk.wrap64_in _ (by omega)]; omega⟩
    obtain ⟨m, hm, hml⟩ := HTM.out K
    go_wp2_with fail
    clear hA
    obtain ⟨hcall, hne⟩ := HDV.out m hml
    generalize readR ((T.take m).length : Int) (wordsL false (T.take m)) = R at hcall hne
    obtain ⟨⟨n', qs, us⟩, f⟩ := R
    refine hcall.mono ?_
    rintro e w14 ⟨⟨u, v, ev, rfl, hU, hV, hO⟩, hb14⟩
    clear hcall
    cases f with
    | none =>
      obtain rfl : ev = .nilIface := hO
      have hne' : decide ((n', qs, us) = ((N : Int), ps, os)) = false := decide_eq_false (fun e => hne (by rw [e]))
      obtain ⟨ux, uc, rfl, hU'⟩ := hU
      obtain ⟨vx, vc, rfl, hV'⟩ := hV
      have hx := Cq.new (n := n') 27 (⟨ux, uc, rfl, hU'⟩ : PRow w14 (.slice ux qs.length uc) qs) (⟨vx, vc, rfl, hV'⟩ : Row w14 (.slice vx us.length vc) us)
      have hal : Below w14.heap.size w14 (w14.alloc (.cells #[.int .i64 n', .slice ux qs.length uc, .slice vx us.length vc] 27)) := (Below.refl _ w14).alloc (Nat.le_refl _) _
      have h15 := bb_step hb14 hal
      have ea : ErrAs (w14.alloc (.cells #[.int .i64 n', .slice ux qs.length uc, .slice vx us.length vc] 27)) ev8 101 true (nT : Int) := HE13a.out.keep h15
      have eb : ErrAs (w14.alloc (.cells #[.int .i64 n', .slice ux qs.length uc, .slice vx us.length vc] 27)) ev10 101 true 1 := HE13b.out.keep h15
      have ec : ErrAs (w14.alloc (.cells #[.int .i64 n', .slice ux qs.length uc, .slice vx us.length vc] 27)) ev12 101 true 0 := HE13c.out.keep h15
      have h4 := bb_step HB13.out h15
      generalize hA15 : w14.alloc (.cells #[.int .i64 n', .slice ux qs.length uc, .slice vx us.length vc] 27) = w15 at *
      have HEa := Lib.hid ea
      have HEb := Lib.hid eb
      have HEc := Lib.hid ec
      have HX15 := Lib.hid hx
      have H15 := Lib.hid h4
      clear hU' hV' hx hal h15 ea eb ec h4 hb14 HDV HE13a HE13b HE13c
      unfold circV
      go_wp2_with fail
      clear hA15
      refine (placed_any 101 (nT : Int) w15 (by omega)).mono ?_
      rintro e w16 ⟨rfl, hb16⟩
      have HB16 := Lib.hid hb16
      clear hb16
      go_wp2_with fail
      refine (see_yes ev8 101 true (nT : Int) w16 (HEa.out.keep HB16.out)).mono ?_
      rintro e w17 ⟨rfl, hb17⟩
      have HB17 := Lib.hid (bb_step HB16.out hb17)
      clear hb17
      go_wp2_with fail
      refine (placed_any 101 1 w17 (by omega)).mono ?_
      rintro e w18 ⟨rfl, hb18⟩
      have HB18 := Lib.hid (bb_step HB17.out hb18)
      clear hb18
      go_wp2_with fail
      refine (see_yes ev10 101 true 1 w18 (HEb.out.keep HB18.out)).mono ?_
      rintro e w19 ⟨rfl, hb19⟩
      have HB19 := Lib.hid (bb_step HB18.out hb19)
      clear hb19
      go_wp2_with fail
      refine (placed_any 101 0 w19 (by omega)).mono ?_
      rintro e w20 ⟨rfl, hb20⟩
      have HB20 := Lib.hid (bb_step HB19.out hb20)
      clear hb20
      go_wp2_with fail
      refine (see_yes ev12 101 true 0 w20 (HEc.out.keep HB20.out)).mono ?_
      rintro e w21 ⟨rfl, hb21⟩
      have HB21 := Lib.hid (bb_step HB20.out hb21)
      have hb4 := bb_step H15.out HB21.out
      have HB4 := Lib.hid hb4
      clear hb21
      obtain ⟨q0, q1, q2, qU, qV, q3⟩ := (HKP.out _ hb4).1
      obtain ⟨x0, x1, x2, xU, xV, x3⟩ := HX15.out.keep HB21.out
      have HSC := Lib.hid (sameCir_any n' (N : Int) _ _ _ _ qs ps us os w21 xU xV qU qV)
      rw [hne'] at HSC
      unfold circV at HSC
      clear qU qV xU xV hne' hb4
      go_wp2_with fail
      refine HSC.out.mono ?_
      rintro e w22 ⟨rfl, hb22⟩
      have HB22 := Lib.hid (bb_step HB4.out hb22)
      clear hb22
      go_wp2_with fail
      go_ret
      exact ⟨rfl, (HKP.out _ HB22.out).2.2.1⟩
    | some f =>
      obtain ⟨bb, hB, rfl, k0, k1⟩ := hO
      clear k0 k1
      obtain ⟨ux, uc, rfl, hU'⟩ := hU
      obtain ⟨vx, vc, rfl, hV'⟩ := hV
      have hx := Cq.new (n := n') 27 (⟨ux, uc, rfl, hU'⟩ : PRow w14 (.slice ux qs.length uc) qs) (⟨vx, vc, rfl, hV'⟩ : Row w14 (.slice vx us.length vc) us)
      have hal : Below w14.heap.size w14 (w14.alloc (.cells #[.int .i64 n', .slice ux qs.length uc, .slice vx us.length vc] 27)) := (Below.refl _ w14).alloc (Nat.le_refl _) _
      have h15 := bb_step hb14 hal
      have ea : ErrAs (w14.alloc (.cells #[.int .i64 n', .slice ux qs.length uc, .slice vx us.length vc] 27)) ev8 101 true (nT : Int) := HE13a.out.keep h15
      have eb : ErrAs (w14.alloc (.cells #[.int .i64 n', .slice ux qs.length uc, .slice vx us.length vc] 27)) ev10 101 true 1 := HE13b.out.keep h15
      have ec : ErrAs (w14.alloc (.cells #[.int .i64 n', .slice ux qs.length uc, .slice vx us.length vc] 27)) ev12 101 true 0 := HE13c.out.keep h15
      have h4 := bb_step HB13.out h15
      generalize hA15 : w14.alloc (.cells #[.int .i64 n', .slice ux qs.length uc, .slice vx us.length vc] 27) = w15 at *
      have HEa := Lib.hid ea
      have HEb := Lib.hid eb
      have HEc := Lib.hid ec
      have HX15 := Lib.hid hx
      have H15 := Lib.hid h4
      clear hU' hV' hx hal h15 ea eb ec h4 hb14 HDV HE13a HE13b HE13c
      unfold circV
      go_wp2_with fail
      clear hA15
      refine (placed_any 101 (nT : Int) w15 (by omega)).mono ?_
      rintro e w16 ⟨rfl, hb16⟩
      have HB16 := Lib.hid hb16
      clear hb16
      go_wp2_with fail
      refine (see_yes ev8 101 true (nT : Int) w16 (HEa.out.keep HB16.out)).mono ?_
      rintro e w17 ⟨rfl, hb17⟩
      have HB17 := Lib.hid (bb_step HB16.out hb17)
      clear hb17
      go_wp2_with fail
      refine (placed_any 101 1 w17 (by omega)).mono ?_
      rintro e w18 ⟨rfl, hb18⟩
      have HB18 := Lib.hid (bb_step HB17.out hb18)
      clear hb18
      go_wp2_with fail
      refine (see_yes ev10 101 true 1 w18 (HEb.out.keep HB18.out)).mono ?_
      rintro e w19 ⟨rfl, hb19⟩
      have HB19 := Lib.hid (bb_step HB18.out hb19)
      clear hb19
      go_wp2_with fail
      refine (placed_any 101 0 w19 (by omega)).mono ?_
      rintro e w20 ⟨rfl, hb20⟩
      have HB20 := Lib.hid (bb_step HB19.out hb20)
      clear hb20
      go_wp2_with fail
      refine (see_yes ev12 101 true 0 w20 (HEc.out.keep HB20.out)).mono ?_
      rintro e w21 ⟨rfl, hb21⟩
      have HB21 := Lib.hid (bb_step HB20.out hb21)
      have hb4 := bb_step H15.out HB21.out
      have HB4 := Lib.hid hb4
      clear hb21
      clear hb4
      go_wp2_with fail
      go_ret
      exact ⟨rfl, (HKP.out _ HB4.out).2.2.1⟩
  · obtain ⟨K, rfl⟩ : ∃ K : Nat, k = (K : Int) := ⟨k.toNat, by omega⟩
    obtain ⟨m, hm, hml⟩ := HTM.out K
    go_wp2_with fail
    clear hA
    obtain ⟨hcall, hne⟩ := HDV.out m hml
    generalize readR ((T.take m).length : Int) (wordsL false (T.take m)) = R at hcall hne
    obtain ⟨⟨n', qs, us⟩, f⟩ := R
    refine hcall.mono ?_
    rintro e w14 ⟨⟨u, v, ev, rfl, hU, hV, hO⟩, hb14⟩
    clear hcall
    cases f with
    | none =>
      obtain rfl : ev = .nilIface := hO
      have hne' : decide ((n', qs, us) = ((N : Int), ps, os)) = false := decide_eq_false (fun e => hne (by rw [e]))
      obtain ⟨ux, uc, rfl, hU'⟩ := hU
      obtain ⟨vx, vc, rfl, hV'⟩ := hV
      have hx := Cq.new (n := n') 27 (⟨ux, uc, rfl, hU'⟩ : PRow w14 (.slice ux qs.length uc) qs) (⟨vx, vc, rfl, hV'⟩ : Row w14 (.slice vx us.length vc) us)
      have hal : Below w14.heap.size w14 (w14.alloc (.cells #[.int .i64 n', .slice ux qs.length uc, .slice vx us.length vc] 27)) := (Below.refl _ w14).alloc (Nat.le_refl _) _
      have h15 := bb_step hb14 hal
      have ea : ErrAs (w14.alloc (.cells #[.int .i64 n', .slice ux qs.length uc, .slice vx us.length vc] 27)) ev8 101 true (nT : Int) := HE13a.out.keep h15
      have eb : ErrAs (w14.alloc (.cells #[.int .i64 n', .slice ux qs.length uc, .slice vx us.length vc] 27)) ev10 101 true 1 := HE13b.out.keep h15
      have ec : ErrAs (w14.alloc (.cells #[.int .i64 n', .slice ux qs.length uc, .slice vx us.length vc] 27)) ev12 101 true 0 := HE13c.out.keep h15
      have h4 := bb_step HB13.out h15
      generalize hA15 : w14.alloc (.cells #[.int .i64 n', .slice ux qs.length uc, .slice vx us.length vc] 27) = w15 at *
      have HEa := Lib.hid ea
      have HEb := Lib.hid eb
      have HEc := Lib.hid ec
      have HX15 := Lib.hid hx
      have H15 := Lib.hid h4
      clear hU' hV' hx hal h15 ea eb ec h4 hb14 HDV HE13a HE13b HE13c
      unfold circV
      go_wp2_with fail
      clear hA15
      refine (placed_any 101 (nT : Int) w15 (by omega)).mono ?_
      rintro e w16 ⟨rfl, hb16⟩
      have HB16 := Lib.hid hb16
      clear hb16
      go_wp2_with fail
      refine (see_yes ev8 101 true (nT : Int) w16 (HEa.out.keep HB16.out)).mono ?_
      rintro e w17 ⟨rfl, hb17⟩
      have HB17 := Lib.hid (bb_step HB16.out hb17)
      clear hb17
      go_wp2_with fail
      refine (placed_any 101 1 w17 (by omega)).mono ?_
      rintro e w18 ⟨rfl, hb18⟩
      have HB18 := Lib.hid (bb_step HB17.out hb18)
      clear hb18
      go_wp2_with fail
      refine (see_yes ev10 101 true 1 w18 (HEb.out.keep HB18.out)).mono ?_
      rintro e w19 ⟨rfl, hb19⟩
      have HB19 := Lib.hid (bb_step HB18.out hb19)
      clear hb19
      go_wp2_with fail
      refine (placed_any 101 0 w19 (by omega)).mono ?_
      rintro e w20 ⟨rfl, hb20⟩
      have HB20 := Lib.hid (bb_step HB19.out hb20)
      clear hb20
      go_wp2_with fail
      refine (see_yes ev12 101 true 0 w20 (HEc.out.keep HB20.out)).mono ?_
      rintro e w21 ⟨rfl, hb21⟩
      have HB21 := Lib.hid (bb_step HB20.out hb21)
      have hb4 := bb_step H15.out HB21.out
      have HB4 := Lib.hid hb4
      clear hb21
      obtain ⟨q0, q1, q2, qU, qV, q3⟩ := (HKP.out _ hb4).1
      obtain ⟨x0, x1, x2, xU, xV, x3⟩ := HX15.out.keep HB21.out
      have HSC := Lib.hid (sameCir_any n' (N : Int) _ _ _ _ qs ps us os w21 xU xV qU qV)
      rw [hne'] at HSC
      unfold circV at HSC
      clear qU qV xU xV hne' hb4
      go_wp2_with fail
      refine HSC.out.mono ?_
      rintro e w22 ⟨rfl, hb22⟩
      have HB22 := Lib.hid (bb_step HB4.out hb22)
      clear hb22
      go_wp2_with fail
      go_ret
      exact ⟨rfl, (HKP.out _ HB22.out).2.2.1⟩
    | some f =>
      obtain ⟨bb, hB, rfl, k0, k1⟩ := hO
      clear k0 k1
      obtain ⟨ux, uc, rfl, hU'⟩ := hU
      obtain ⟨vx, vc, rfl, hV'⟩ := hV
      have hx := Cq.new (n := n') 27 (⟨ux, uc, rfl, hU'⟩ : PRow w14 (.slice ux qs.length uc) qs) (⟨vx, vc, rfl, hV'⟩ : Row w14 (.slice vx us.length vc) us)
      have hal : Below w14.heap.size w14 (w14.alloc (.cells #[.int .i64 n', .slice ux qs.length uc, .slice vx us.length vc] 27)) := (Below.refl _ w14).alloc (Nat.le_refl _) _
      have h15 := bb_step hb14 hal
      have ea : ErrAs (w14.alloc (.cells #[.int .i64 n', .slice ux qs.length uc, .slice vx us.length vc] 27)) ev8 101 true (nT : Int) := HE13a.out.keep h15
      have eb : ErrAs (w14.alloc (.cells #[.int .i64 n', .slice ux qs.length uc, .slice vx us.length vc] 27)) ev10 101 true 1 := HE13b.out.keep h15
      have ec : ErrAs (w14.alloc (.cells #[.int .i64 n', .slice ux qs.length uc, .slice vx us.length vc] 27)) ev12 101 true 0 := HE13c.out.keep h15
      have h4 := bb_step HB13.out h15
      generalize hA15 : w14.alloc (.cells #[.int .i64 n', .slice ux qs.length uc, .slice vx us.length vc] 27) = w15 at *
      have HEa := Lib.hid ea
      have HEb := Lib.hid eb
      have HEc := Lib.hid ec
      have HX15 := Lib.hid hx
      have H15 := Lib.hid h4
      clear hU' hV' hx hal h15 ea eb ec h4 hb14 HDV HE13a HE13b HE13c
      unfold circV
      go_wp2_with fail
      clear hA15
      refine (placed_any 101 (nT : Int) w15 (by omega)).mono ?_
      rintro e w16 ⟨rfl, hb16⟩
      have HB16 := Lib.hid hb16
      clear hb16
      go_wp2_with fail
      refine (see_yes ev8 101 true (nT : Int) w16 (HEa.out.keep HB16.out)).mono ?_
      rintro e w17 ⟨rfl, hb17⟩
      have HB17 := Lib.hid (bb_step HB16.out hb17)
      clear hb17
      go_wp2_with fail
      refine (placed_any 101 1 w17 (by omega)).mono ?_
      rintro e w18 ⟨rfl, hb18⟩
      have HB18 := Lib.hid (bb_step HB17.out hb18)
      clear hb18
      go_wp2_with fail
      refine (see_yes ev10 101 true 1 w18 (HEb.out.keep HB18.out)).mono ?_
      rintro e w19 ⟨rfl, hb19⟩
      have HB19 := Lib.hid (bb_step HB18.out hb19)
      clear hb19
      go_wp2_with fail
      refine (placed_any 101 0 w19 (by omega)).mono ?_
      rintro e w20 ⟨rfl, hb20⟩
      have HB20 := Lib.hid (bb_step HB19.out hb20)
      clear hb20
      go_wp2_with fail
      refine (see_yes ev12 101 true 0 w20 (HEc.out.keep HB20.out)).mono ?_
      rintro e w21 ⟨rfl, hb21⟩
      have HB21 := Lib.hid (bb_step HB20.out hb21)
      have hb4 := bb_step H15.out HB21.out
      have HB4 := Lib.hid hb4
      clear hb21
      clear hb4
      go_wp2_with fail
      go_ret
      exact ⟨rfl, (HKP.out _ HB4.out).2.2.1⟩
theorem lawAt_any (A : Nat → Addr) (i k : Int) (a1 : Option Addr) (c1 : Nat) (ls : List Int) (w : World) (hS : Sents w A) (ht : Tabs w) (hl : RowAt w a1 c1 ls) (hlb : ∀ y ∈ ls, in64 y) (hk64 : in64 k) :
    Calls Tryd.prog 8 #[.int .i64 i, .slice a1 ls.length c1, .int .i64 k] w fun e w' => e = .returned (.bool true) ∧ Below w.heap.size w w' := by
  by_cases ho : 40 < ls.length ∨ i < 1 ∨ 9 < i
  · exact lawAt_out A i k a1 c1 ls.length w hS ht ho
  · obtain ⟨N, rfl⟩ : ∃ N : Nat, i = (N : Int) := ⟨i.toNat, by omega⟩
    exact lawAt_in A N k a1 c1 ls w hS ht hl hlb (fun h => ho (.inl h)) (fun h => ho (.inr (.inl h))) (fun h => ho (.inr (.inr h))) hk64
end Go.Proofs.YtfkodpglgeghlaaDoor
