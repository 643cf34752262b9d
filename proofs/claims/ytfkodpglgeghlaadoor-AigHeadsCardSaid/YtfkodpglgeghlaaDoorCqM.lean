/- The contract of skolemref.Bytes: a copy. Conditions: the slice reads as bytes, and is not too long. · Contracts of skolemref.SameBytes and skolemref.SameBools. Conditions: the slices read as the lists named ('RowG'). · A circuit in a block of its own ('Cq'), what stays of it; both Reads and both Bytes at a right circuit and its text. Conditions: the errors lie as 'Sents' says; the table of powers of ten is as the program lays it. -/
import Derived.Test.YtfkodpglgeghlaaDoorAppStr
import Derived.Test.YtfkodpglgeghlaaDoorBits
import Derived.Deep.QuietTactic
import Derived.BigQuiet
import Derived.RegionTactic
import Derived.WalkSmall
import Derived.Deep.Draws
import Derived.Test.YtfkodpglgeghlaaDoorAbM2
import Derived.Test.YtfkodpglgeghlaaDoorRdZ
import Derived.Test.YtfkodpglgeghlaaDoorAbM1
import Derived.Test.YtfkodpglgeghlaaDoorSmC
import Derived.Test.YtfkodpglgeghlaaDoorFsM
namespace Go.Proofs.YtfkodpglgeghlaaDoor
open Go.RowKit

/-- 'make([]byte, 0, n)'. -/
theorem wpList_make0U {ops : Array Oper} {rest : List Oper} {o : Oper} {a : Act} {Q : Exit → Act → World → Prop} (hgd : o.guard = none) (l c : Operand) (ho : o.op = Op.makeSlice 23 l c)
    (w : World) (n : Nat) (hl : a.eval l = .int .i64 0) (hc : a.eval c = .int .i64 (n : Int)) (hn : n < 1099511627776)
    (h : ∀ w', w'.ownsRow w.heap.size 5 1 (.slice (some ⟨w.heap.size, 0, none⟩) 0 n) 0 (([] : List Int).map (Value.int .u8)) → Below w.heap.size w w' → w.heap.size < w'.heap.size → wpList Tryd.prog ops Q rest (a.put o.dst (.slice (some ⟨w.heap.size, 0, none⟩) 0 n)) w') :
    wpList Tryd.prog ops Q (o :: rest) a w := by
  obtain ⟨i0, hi, hz0, hz1, hz2⟩ := info_parts infoU8
  refine wpList_make_own _ hgd l c 23 ho w.heap.size 5 i0 (.int .u8 0) 1 Tryd.underlying23 hi hz0 hz1 _ _ _ n hl hc rfl (by rw [hz2]; omega) (by unfold maxLen; omega) (Nat.le_refl _) ?_
  intro w' h1 h2
  have hlt := h1.lt w.heap.size rfl
  exact h w' (by simpa using h1) ((Below.refl _ w).grown h2 (Nat.le_refl _) fun k hk => by cases hk) hlt.2

set_option maxHeartbeats 1000000 in
theorem copyB_any (v : Value) (xs : List Int) (w : World) (hv : RowG (Value.int .u8) 0 w v xs) (hn : xs.length ≤ 10000) :
    Calls Tryd.prog 13 #[v] w fun e w' => (∃ v', e = .returned v' ∧ w'.ownsRow w.heap.size 5 1 v' xs.length (xs.map (Value.int .u8))) ∧ Below w.heap.size w w' := by
  obtain ⟨a, c, rfl, hxc, hcm, hx⟩ := hv
  unfold maxLen at hcm
  have HX := Lib.hid hx; clear hx
  generalize hN : xs.length = n at *
  have HN := Lib.hid hN; clear hN
  go_enter Tryd.func13, Tryd.ntmps13
  go_wp2_with (at_make; refine wpList_make0U rfl _ _ rfl _ n rfl rfl (by omega) ?_; intro w1 hown hb1 hs1)
  go_loopw [3, 4] (fun o i wr => ∃ k : Nat, k ≤ n ∧ i = .int .i64 k ∧ wr.ownsRow w.heap.size 5 1 o k ((xs.take k).map (Value.int .u8)) ∧ Below w.heap.size w wr ∧ w.heap.size < wr.heap.size) (fun _ i _ => n - (intOf i).toNat)
  case atStart => exact ⟨0, Nat.zero_le _, rfl, by simpa using hown, hb1, hs1⟩
  case round =>
    obtain ⟨k, hk, rfl, hownr, hbr, hsr⟩ := hrel
    clear hown hb1 hs1
    by_cases hlt : k < n
    · obtain ⟨b, off, ha, hb, hc⟩ := HX.out.resolve_left (by omega)
      subst ha
      have g1 : wr.cell? ⟨b, off + k, none⟩ = some (.int .u8 (xs.getD k 0)) := (hbr.cell (p := ⟨b, off + k, none⟩) hb).trans (hc k hlt)
      clear hc
      have HT := Lib.hid (take_snoc xs k (by rw [HN.out]; exact hlt))
      generalize xs.getD k 0 = y at *
      go_wp2_with (at_builtin; refine wpList_app1G (Value.int .u8) 23 5 (.int .u8 0) 1 Tryd.underlying23 infoU8 rfl (by decide) rfl _ _ rfl wr w.heap.size _ _ _ y rfl hownr (by omega) (by omega) rfl rfl ?_; intro v' w2 hown2 hb3)
      go_roundw
      case rel => exact ⟨k + 1, by omega, by go_num, by rw [HT.out]; exact hown2, hbr.trans hb3.below, Nat.lt_of_lt_of_le hsr hb3.below.size⟩
      case measure => simp [intOf]; omega
    · have hkn : k = n := by omega
      rw [hkn, List.take_of_length_le (by rw [HN.out]; exact Nat.le_refl _)] at hownr
      clear hkn
      go_wp2
      go_ret
      exact ⟨⟨_, rfl, hownr⟩, hbr⟩
end Go.Proofs.YtfkodpglgeghlaaDoor

namespace Go.Proofs.YtfkodpglgeghlaaDoor
open Go.RowKit

theorem below_drawsG {w w' : World} (h : ∃ n, w' = w.drewN n) : Below w.heap.size w w' := by
  obtain ⟨n, rfl⟩ := h
  exact below_drewN (Below.refl _ _) n

set_option maxHeartbeats 1000000 in
theorem sameBytes_any (v u : Value) (xs ys : List Int) (w : World) (hv : RowG (Value.int .u8) 0 w v xs) (hu : RowG (Value.int .u8) 0 w u ys) :
    Calls Tryd.prog 14 #[v, u] w fun e w' => e = .returned (.bool (decide (xs = ys))) ∧ ∃ n, w' = w.drewN n := by
  obtain ⟨a, c, rfl, hxc, hcm, hx⟩ := hv
  obtain ⟨a', c', rfl, hyc, hcm', hy⟩ := hu
  unfold maxLen at hcm hcm'
  by_cases hl : xs.length = ys.length
  · rw [← hl]
    rw [← hl] at hy hyc
    by_cases h0 : xs.length = 0
    · have hxe : xs = [] := List.eq_nil_of_length_eq_zero h0
      have hye : ys = [] := List.eq_nil_of_length_eq_zero (by omega)
      subst hxe; subst hye
      clear hx hy hl h0
      go_enter Tryd.func14, Tryd.ntmps14
      go_wp2
      refine wp_loop_rounds 1 ?_
      rw [rounds_succ]
      go_wp2
      go_ret
      exact ⟨by simp, 0, rfl⟩
    · obtain ⟨b, off, rfl, hb, hx⟩ := hx.resolve_left h0
      obtain ⟨b', off', rfl, hb', hy⟩ := hy.resolve_left h0
      have HX := Lib.hid hx; clear hx
      have HY := Lib.hid hy; clear hy
      have HL := Lib.hid hl; clear hl
      generalize hn : xs.length = n at *
      have HN := Lib.hid hn; clear hn
      have hne : ((n : Int) != (n : Int)) = false := by simp
      go_enter Tryd.func14, Tryd.ntmps14
      go_wp2
      go_loopw [5, 6] (fun i _ wr => ∃ k q : Nat, k ≤ n ∧ i = .int .i64 k ∧ wr = w.drewN q ∧ Hid (∀ j, j < k → xs.getD j 0 = ys.getD j 0)) (fun i _ _ => n - (intOf i).toNat)
      case atStart => exact ⟨0, 0, Nat.zero_le _, rfl, rfl, fun j hj => absurd hj (Nat.not_lt_zero _)⟩
      case round =>
        obtain ⟨k, q, hk, rfl, rfl, HQ⟩ := hrel
        by_cases hlt : k < n
        · have g1 : w.cell? ⟨b, off + k, none⟩ = some ((Value.int .u8) (xs.getD k 0)) := HX.out k hlt
          have g2 : w.cell? ⟨b', off' + k, none⟩ = some ((Value.int .u8) (ys.getD k 0)) := HY.out k hlt
          generalize hxk : xs.getD k 0 = x at g1
          generalize hyk : ys.getD k 0 = y at g2
          have HXY := Lib.hid (And.intro hxk hyk); clear hxk hyk
          by_cases he : x = y
          · subst he
            go_wp2
            go_quiet (fail)
            go_wp2
            go_roundw
            case rel =>
              refine ⟨k + 1, _, by omega, by go_num, rfl, fun j hj => ?_⟩
              by_cases e : j = k
              · rw [e, HXY.out.1, HXY.out.2]
              · exact HQ.out j (by omega)
            case measure => simp [intOf]; omega
          · have heb : (x == y) = false := by simp [he]
            go_wp2
            go_quiet (fail)
            go_wp2
            go_ret
            refine ⟨ret_bool ?_, _, rfl⟩
            have : xs ≠ ys := fun e => he (by rw [← HXY.out.1, ← HXY.out.2, e])
            simp [this]
        · have hkn : k = n := by omega
          have hall : xs = ys := getD_extG (d := 0) (by rw [HN.out]; exact HL.out) (fun j hj => HQ.out j (by rw [HN.out] at hj; omega))
          have HA := Lib.hid hall; clear hall
          subst hkn
          go_wp2
          go_ret
          exact ⟨ret_bool (by simp [HA.out]), _, rfl⟩
  · have hne : (!((xs.length : Int) == (ys.length : Int))) = true := by simp; omega
    have hne' : ((xs.length : Int) == (ys.length : Int)) = false := by simp; omega
    have hxy : decide (xs = ys) = false := by
      simp; intro e; exact hl (by rw [e])
    have HD := Lib.hid hxy; clear hxy
    clear hx hy
    generalize xs.length = n at *
    generalize ys.length = m at *
    generalize decide (xs = ys) = d at *
    go_enter Tryd.func14, Tryd.ntmps14
    go_wp2
    go_ret
    exact ⟨ret_bool HD.out.symm, 0, rfl⟩

end Go.Proofs.YtfkodpglgeghlaaDoor

namespace Go.Proofs.YtfkodpglgeghlaaDoor
open Go.RowKit

theorem bb_step {w0 W W' : World} (h : Below w0.heap.size w0 W) (hb : Below W.heap.size W W') : Below w0.heap.size w0 W' := h.trans (hb.mono h.size)
/-- A circuit's cells at block q, its rows. -/
structure Cq (W : World) (q : Nat) (n : Int) (u v : Value) (ps : List (Int × Int)) (os : List Int) : Prop where
  c0 : W.cell? ⟨q, 0, none⟩ = some (.int .i64 n)
  c1 : W.cell? ⟨q, 1, none⟩ = some u
  c2 : W.cell? ⟨q, 2, none⟩ = some v
  U : PRow W u ps
  V : Row W v os
  lt : q < W.heap.size
theorem Cq.keep {W W' : World} {q : Nat} {n : Int} {u v : Value} {ps : List (Int × Int)} {os : List Int} (h : Cq W q n u v ps os) (hb : Below W.heap.size W W') : Cq W' q n u v ps os :=
  ⟨(hb.cell (p := ⟨q, 0, none⟩) h.lt).trans h.c0, (hb.cell (p := ⟨q, 1, none⟩) h.lt).trans h.c1, (hb.cell (p := ⟨q, 2, none⟩) h.lt).trans h.c2, h.U.keep hb, h.V.keep hb, Nat.lt_of_lt_of_le h.lt hb.size⟩
theorem Cq.new {w : World} {n : Int} {u v : Value} {ps : List (Int × Int)} {os : List Int} (T : TypeId) (hu : PRow w u ps) (hv : Row w v os) : Cq (w.alloc (.cells #[.int .i64 n, u, v] T)) w.heap.size n u v ps os := by
  have hb : Below w.heap.size w (w.alloc (.cells #[.int .i64 n, u, v] T)) := (Below.refl _ w).alloc (Nat.le_refl _) _
  refine ⟨?_, ?_, ?_, hu.keep hb, hv.keep hb, by simp⟩
  · rw [World.cell?_alloc_at _ _ _ _ rfl]; rfl
  · rw [World.cell?_alloc_at _ _ _ _ rfl]; rfl
  · rw [World.cell?_alloc_at _ _ _ _ rfl]; rfl
theorem RightC.bd {i : Nat} {ps : List (Int × Int)} {os : List Int} (h : RightC i ps os) : (∀ x ∈ ps, (0 ≤ x.1 ∧ x.1 < 1000000000) ∧ 0 ≤ x.2 ∧ x.2 < 1000000000) ∧ ∀ o ∈ os, 0 ≤ o ∧ o < 1000000000 := by
  obtain ⟨h1, h2, h3, h4⟩ := h
  refine ⟨fun x hx => ?_, fun o ho => by have := h4 o ho; omega⟩
  obtain ⟨j, hj, rfl⟩ := List.getElem_of_mem hx
  have := h3 j hj
  simp only [List.getD, List.getElem?_eq_getElem hj, Option.getD_some] at this
  omega
theorem textA_len {i : Nat} {ps : List (Int × Int)} {os : List Int} (h : RightC i ps os) (hi : i ≤ 40) (hp : ps.length ≤ 60) (ho : os.length ≤ 30) : (textA i ps os).length ≤ 3000 := by
  obtain ⟨b1, b2⟩ := h.bd
  have h1 := insT_len i (by omega)
  have h2 := outsT_len os b2
  have h3 := gatesT_len i (by omega) ps 0 (by omega) b1
  have h4 := lineL_len [(i : Int) + (ps.length : Int), (i : Int), 0, (os.length : Int), (ps.length : Int)] (by intro n hn; simp at hn; omega)
  unfold textA headT
  simp only [List.length_append, List.length_cons, List.length_nil] at h4 ⊢
  omega
theorem textA_bts (i : Nat) (ps : List (Int × Int)) (os : List Int) : Bts (textA i ps os) := by
  have hl : ∀ ns : List Int, Bts (lineL ns) := fun ns x hx => by
    unfold lineL bodyL at hx
    rcases List.mem_append.1 hx with hx | hx
    · have := List.mem_of_mem_drop hx
      obtain ⟨n, _, hn⟩ := List.mem_flatMap.1 this
      rcases List.mem_cons.1 hn with rfl | hn
      · omega
      · exact (tok_itoa n).2 x hn
    · have e := List.mem_singleton.1 hx; subst e; omega
  unfold textA headT
  refine Bts.append (Bts.append (Bts.append (Bts.append ?_ (hl _)) ?_) ?_) ?_
  · intro x hx; simp at hx; omega
  · intro x hx
    unfold insT at hx
    obtain ⟨j, _, hj⟩ := List.mem_flatMap.1 hx
    exact hl _ x hj
  · intro x hx
    unfold outsT at hx
    obtain ⟨j, _, hj⟩ := List.mem_flatMap.1 hx
    exact hl _ x hj
  · have : ∀ (ps : List (Int × Int)) (k : Nat), Bts (gatesT i k ps) := fun ps => by
      induction ps with
      | nil => intro k x hx; cases hx
      | cons y ps ih => intro k; rw [gatesT]; exact (hl _).append (ih (k + 1))
    exact this ps 0
/-- What Read answers where it takes the text. -/
def GotP (w : World) (n : Int) (ps : List (Int × Int)) (os : List Int) (r : Ending) (w' : World) : Prop :=
  (∃ u v, r = .returned (.tuple #[circV n u v, .nilIface]) ∧ PRow w' u ps ∧ Row w' v os) ∧ Below w.heap.size w w'
/-- What Read answers where it does not. -/
def NotP (A : Nat → Addr) (w : World) (f : Bool) (k : Int) (r : Ending) (w' : World) : Prop :=
  (∃ ev, r = .returned (.tuple #[circV 0 (.slice none 0 0) (.slice none 0 0), ev]) ∧ AtB A w.heap.size w' ev k (if f = true then 1 else 0)) ∧ Below w.heap.size w w'
theorem read_got {A : Nat → Addr} {w : World} {P : Program} {f : Nat} {args : Array Value} {R : Res} {n : Int} {ps : List (Int × Int)} {os : List Int} (h : Calls P f args w (ReadP A w R)) (hR : R = ((n, ps, os), none)) : Calls P f args w (GotP w n ps os) := by
  refine h.mono ?_
  rintro e w' ⟨⟨u, v, ev, h1, h2, h3, h4⟩, h5⟩
  rw [hR] at h1 h2 h3 h4
  have h6 : ev = .nilIface := h4
  subst h6
  exact ⟨⟨u, v, h1, h2, h3⟩, h5⟩
theorem sameCir_one (n : Int) (u v u' v' : Value) (ps : List (Int × Int)) (os : List Int) (w : World) (h1 : PRow w u ps) (h2 : Row w v os) (h3 : PRow w u' ps) (h4 : Row w v' os) :
    Calls Tryd.prog 16 #[circV n u v, circV n u' v'] w fun e w' => e = .returned (.bool true) ∧ Below w.heap.size w w' := by
  have := sameCir_any n n u v u' v' ps ps os os w h1 h2 h3 h4
  simpa using this
/-- A text just made. -/
theorem text_row {w : World} {B : Nat} {v : Value} {n : Nat} {xs : List Int} (h : w.ownsRow B 5 1 v n (xs.map (Value.int .u8))) : ∃ a c, v = .slice a xs.length c ∧ RowG (Value.int .u8) 0 w (.slice a xs.length c) xs := by
  obtain ⟨a, c, rfl, h2⟩ := own_rowG h
  exact ⟨a, c, rfl, a, c, rfl, h2⟩
end Go.Proofs.YtfkodpglgeghlaaDoor
