/- The contract of lits.Norm: the list in its order, each once, in new memory, and whether no literal stands there with its opposite. Conditions: the ints lie strictly inside the 64 bits, the list is short. -/
import Derived.Test.YtjlmooimdogmjaaLg25
import Derived.Test.YtjlmooimdogmjaaLg01
import Derived.Test.YtjlmooimdogmjaaShelf
import Derived.Lib.SortBridge
set_option linter.unusedVariables false
set_option linter.unusedSimpArgs false
namespace Go.Proofs.Ytjlmooimdogmjaa
open Go.RowKit Go.Sort

set_option maxHeartbeats 400000 in
theorem varw_any (l : Int) (w : World) :
    Calls Try.prog 41 #[.int .i64 l] w fun e w' => e = .returned (.int .i64 (vw l)) ∧ w = w' := by
  unfold vw
  by_cases hlt : l < 0
  · go_enter Try.func41, Try.ntmps41
    go_wp2
    go_ret
    exact ⟨by simp, rfl⟩
  · go_enter Try.func41, Try.ntmps41
    go_wp2
    go_ret
    exact ⟨by simp, rfl⟩

set_option maxHeartbeats 400000 in
/-- cmp.Or of two ints that lie in a block: the first that is not 0. -/
theorem or2_any (b : Nat) (p q : Int) (w : World) (h0 : w.cell? ⟨b, 0, none⟩ = some (.int .i64 p)) (h1 : w.cell? ⟨b, 1, none⟩ = some (.int .i64 q)) :
    Calls Try.prog 82 #[.slice (some ⟨b, 0, none⟩) 2 2] w fun e w' => e = .returned (.int .i64 (orI p q)) ∧ w = w' := by
  unfold orI
  by_cases hp : p = 0
  · by_cases hq : q = 0
    · subst hp; subst hq
      go_enter Try.func82, Try.ntmps82
      go_wp2
      refine wp_loop_rounds 3 ?_
      rw [rounds_succ]
      go_wp2
      rw [rounds_succ]
      go_wp2
      rw [rounds_succ]
      go_wp2
      go_ret
      exact ⟨rfl, rfl⟩
    · subst hp
      have hqb : (q != 0) = true := by simp [hq]
      go_enter Try.func82, Try.ntmps82
      go_wp2
      refine wp_loop_rounds 3 ?_
      rw [rounds_succ]
      go_wp2
      rw [rounds_succ]
      go_wp2
      go_ret
      exact ⟨rfl, rfl⟩
  · have hpb : (p != 0) = true := by simp [hp]
    go_enter Try.func82, Try.ntmps82
    go_wp2
    refine wp_loop_rounds 3 ?_
    rw [rounds_succ]
    go_wp2
    go_ret
    exact ⟨by simp, rfl⟩

set_option maxHeartbeats 1000000 in
/-- The comparison that lits.Norm hands to the sort. -/
theorem order_any (x y : Int) (W : World) :
    Calls Try.prog 68 #[.int .i64 x, .int .i64 y] W fun e w' => e = .returned (.int .i64 (cfO x y)) ∧ ∃ q os, w' = grow (W.drewN q) os := by
  have HC := Lib.hid (Try.cmp_Compare_int)
  have hcf : cfO x y = orI (Lib.compareInt (vw x) (vw y)) (Lib.compareInt x y) := rfl
  have H1 := Lib.hid (fun W => Try.cmp_Compare_int (vw x) (vw y) W)
  have H2 := Lib.hid (fun W => Try.cmp_Compare_int x y W)
  have V1 := Lib.hid (fun W => varw_any x W)
  have V2 := Lib.hid (fun W => varw_any y W)
  have HCF := Lib.hid hcf
  clear hcf HC
  generalize cfO x y = r at *
  generalize Lib.compareInt (vw x) (vw y) = p at *
  generalize Lib.compareInt x y = q at *
  generalize vw x = vx at *
  generalize vw y = vy at *
  go_enter Try.func68, Try.ntmps68
  go_wp2_with fail
  refine (V1.out _).mono ?_
  rintro e w' ⟨rfl, rfl⟩
  go_wp2_with fail
  refine (V2.out _).mono ?_
  rintro e w' ⟨rfl, rfl⟩
  go_wp2_with fail
  refine (H1.out _).mono ?_
  rintro e w' ⟨rfl, rfl⟩
  go_wp2_with fail
  refine (H2.out _).mono ?_
  rintro e w' ⟨rfl, rfl⟩
  go_wp2_with fail
  refine (or2_any w'.heap.size p q _ (by rw [World.cell?_alloc_at _ _ _ _ rfl]; rfl) (by rw [World.cell?_alloc_at _ _ _ _ rfl]; rfl)).mono ?_
  rintro e w1 ⟨rfl, rfl⟩
  go_wp2_with fail
  go_ret
  exact ⟨ret_int HCF.out.symm, 0, _, (alloc_eq_grow _ _)⟩

/-- In whatever world of the sort's. -/
theorem order_lays (blk off size : Nat) (w : World) : CmpLays1 Try.prog 68 #[] (Value.int .i64) cfO blk off size w := fun _ _ _ _ x y => order_any x y _

/-- Behind the sort the row is still owned, and nothing below has changed. -/
theorem own_sorted {w : World} {B : Nat} {e : TypeId} {g n cap q : Nat} {zs ys : List Int} {os : Array Obj} (h : w.ownsRow B e 1 (.slice (some ⟨g, 0, none⟩) n cap) n (zs.map (Value.int .i64))) (hy : ys.length = n) :
    (sortWorld (Value.int .i64) w g 0 q ys.toArray os).ownsRow B e 1 (.slice (some ⟨g, 0, none⟩) n cap) n (ys.map (Value.int .i64)) ∧ Below B w (sortWorld (Value.int .i64) w g 0 q ys.toArray os) := by
  have hlt := h.lt g rfl
  have h1 := Lib.ownsRow_putRow (q := q) h hy (Nat.le_refl _)
  rw [List.take_of_length_le (by omega)] at h1
  have h2 : Below B w (putRow (Value.int .i64) (Sort.ahead w q) g 0 ys.toArray) := Lib.below_putRow (Below.refl B w) hlt.1
  have h3 : Below (putRow (Value.int .i64) (Sort.ahead w q) g 0 ys.toArray).heap.size (putRow (Value.int .i64) (Sort.ahead w q) g 0 ys.toArray) (sortWorld (Value.int .i64) w g 0 q ys.toArray os) :=
    ⟨rfl, rfl, rfl, by simp [sortWorld, grow], fun k hk => Array.getElem?_append_left hk⟩
  exact ⟨own_keep h1 h3, h2.trans (h3.mono (by have := h2.size; omega))⟩
/-- Behind slices.Compact the row, cut, is still owned. -/
theorem own_compact {w : World} {B : Nat} {e : TypeId} {g n cap q : Nat} {zs : List Int} (h : w.ownsRow B e 1 (.slice (some ⟨g, 0, none⟩) n cap) n (zs.map (Value.int .i64))) :
    (putRow (Value.int .i64) (Sort.ahead w q) g 0 (Lib.compact zs ++ List.replicate (zs.length - (Lib.compact zs).length) 0).toArray).ownsRow B e 1 (.slice (some ⟨g, 0, none⟩) (Lib.compact zs).length cap) (Lib.compact zs).length ((Lib.compact zs).map (Value.int .i64)) ∧
      Below B w (putRow (Value.int .i64) (Sort.ahead w q) g 0 (Lib.compact zs ++ List.replicate (zs.length - (Lib.compact zs).length) 0).toArray) := by
  have hlt := h.lt g rfl
  have hl := own_len h
  have hc := Lib.compact_length_le zs
  have h1 := Lib.ownsRow_putRow (q := q) (ys := Lib.compact zs ++ List.replicate (zs.length - (Lib.compact zs).length) 0) h (by simp; omega) (show (Lib.compact zs).length ≤ n by omega)
  rw [List.take_left] at h1
  exact ⟨h1, Lib.below_putRow (Below.refl B w) hlt.1⟩

/-- What Norm leaves. -/
def NormPost (w : World) (xs : List Int) (e : Ending) (w' : World) : Prop :=
  ∃ v', e = .returned (.tuple #[v', .bool (normSays (normL xs))]) ∧ Below w.heap.size w w' ∧ w'.ownsRow w.heap.size 3 1 v' (normL xs).length ((normL xs).map (Value.int .i64))

theorem compact_nil : Lib.compact ([] : List Int) = [] := rfl
theorem normL_nil : normL [] = [] := by simp [normL, sortL, compact_nil]

theorem mem_compact {l : List Int} {x : Int} (h : x ∈ Lib.compact l) : x ∈ l := by
  unfold Lib.compact Lib.compactUpTo at h
  obtain ⟨j, hj, rfl⟩ := List.mem_map.1 h
  have hj' := (List.mem_filter.1 hj).1
  rw [List.mem_range] at hj'
  have : l.toArray[j]! = l[j] := by simp [getElem!_pos, hj']
  rw [this]
  exact List.getElem_mem hj'
theorem inW_norm {xs : List Int} (h : InW xs) : InW (normL xs) := fun x hx => h x (by have := mem_compact hx; simpa [sortL] using this)

set_option maxHeartbeats 2000000 in
theorem norm_any (v : Value) (xs : List Int) (w : World) (hv : Row w v xs) (hxs : InW xs) (hn : xs.length < 1000000000) :
    Calls Try.prog 45 #[v] w (NormPost w xs) := by
  obtain ⟨a, c, rfl, hxc, hcm, hx⟩ := hv
  unfold maxLen at hcm
  have hI := inW_norm hxs
  have hnl := normL_len xs
  have eg : ∀ args w, (callFunc 68 args).run Try.prog w = .ok (.enter 68 args) w := enters_of Try.func68 (by kernel_rfl) rfl
  have EG := Lib.hid eg; clear eg
  by_cases h0 : xs.length = 0
  · have hxe : xs = [] := List.eq_nil_of_length_eq_zero h0
    subst hxe
    clear hx h0 hI hnl
    have HS := Lib.hid (fun p cap W => Try.slices_SortFunc_none (α := Int) p cap (.func (.func 68) #[] #[]) W)
    have HK := Lib.hid (fun a cap W => Try.slices_Compact_int_empty a cap W)
    have HR : ∀ v' w', w'.ownsRow w.heap.size 3 1 v' 0 [] → Below w.heap.size w w' → NormPost w [] (.returned (.tuple #[v', .bool true])) w' := fun v' w' h1 h2 =>
      ⟨v', by rw [normL_nil]; rfl, h2, by rw [normL_nil]; exact h1⟩
    have HR' := Lib.hid HR; clear HR
    cases a with
    | none =>
      have HCL := Lib.hid (Try.slices_Clone_int_nil 0 c w)
      go_enter Try.func45, Try.ntmps45
      go_wp2_with fail
      refine HCL.out.mono ?_
      rintro e w1 ⟨rfl, rfl⟩
      go_wp2_with fail
      refine (HS.out _ _ _).mono ?_
      rintro e w2 ⟨rfl, rfl⟩
      go_wp2_with fail
      refine (HK.out _ _ _).mono ?_
      rintro e w3 ⟨rfl, rfl⟩
      go_wp2_with fail
      refine wp_loop_rounds 1 ?_
      rw [rounds_succ]
      go_wp2
      go_ret2
      exact HR'.out _ _ (World.ownsRow_nil _ _ _ _) (Below.refl _ _)
    | some ad =>
      have HCL := Lib.hid (Try.slices_Clone_int_zero ad c w)
      go_enter Try.func45, Try.ntmps45
      go_wp2_with fail
      refine HCL.out.mono ?_
      rintro e w1 ⟨v1, rfl, hown1, hv1, hb1⟩
      obtain ⟨a1, c1, rfl, _, _⟩ := own_shape hown1
      go_wp2_with fail
      refine (HS.out _ _ _).mono ?_
      rintro e w2 ⟨rfl, rfl⟩
      go_wp2_with fail
      refine (HK.out _ _ _).mono ?_
      rintro e w3 ⟨rfl, rfl⟩
      go_wp2_with fail
      refine wp_loop_rounds 1 ?_
      rw [rounds_succ]
      go_wp2
      go_ret2
      exact HR'.out _ _ hown1 hb1
  · obtain ⟨b, off, rfl, hb, hx⟩ := hx.resolve_left h0
    have HCL := Lib.hid (Try.slices_Clone_int b off xs.length c xs w (Nat.le_refl _) (by omega) hx)
    clear hx
    rw [List.take_length] at HCL
    go_enter Try.func45, Try.ntmps45
    go_wp2_with fail
    refine HCL.out.mono ?_
    rintro e w1 ⟨v1, rfl, hown1, hv1, hb1⟩
    obtain ⟨g, cap, rfl, hBg, hg1, hnc, hcm1, _, hH⟩ := Lib.holds_of_ownsRow hown1 hv1
    clear hv1
    go_wp2_with fail
    have hS := Try.slices_SortFunc_total (Value.int .i64) (fun _ => rfl) cfO swoO 68 #[] g 0 cap xs.toArray w1 EG.out (order_lays g 0 xs.toArray.size w1) hH hg1 (by simp; omega) totO
    have hsz : xs.toArray.size = xs.length := by simp
    rw [hsz] at hS
    refine hS.mono ?_
    clear hS hH hsz
    rintro e w2 ⟨rfl, q, os, hw2⟩
    have hs2 := own_sorted (q := q) (os := os) hown1 (sortL_len xs)
    rw [show (sortWorld (Value.int .i64) w1 g 0 q (sortL xs).toArray os) = w2 from hw2.symm] at hs2
    clear hw2 hown1
    obtain ⟨hown2, hb2⟩ := hs2
    have hg2 := (hown2.lt g rfl).2
    obtain ⟨g', cap', e', _, _, _, _, _, hH2⟩ := Lib.holds_of_ownsRow hown2 (by simp)
    injection e' with e1 _ e3
    injection e1 with e1
    injection e1 with e1
    subst e1; subst e3
    go_wp2_with fail
    have hC := Try.slices_Compact_int g 0 cap (sortL xs) w2 hH2 (by rw [sortL_len]; omega) (by rw [sortL_len]; omega)
    have hcw := fun q => own_compact (q := q) hown2
    clear hH2
    rw [sortL_len] at hC
    rw [show Lib.compact (sortL xs) = normL xs from rfl] at hC
    refine hC.mono ?_
    clear hC
    rintro e w3 ⟨rfl, q3, hw3⟩
    have hs3 := hcw q3
    rw [sortL_len] at hs3
    rw [show Lib.compact (sortL xs) = normL xs from rfl] at hs3
    rw [← hw3] at hs3
    clear hw3 hcw hown2
    obtain ⟨hown3, hb3⟩ := hs3
    have hbw : Below w.heap.size w w3 := hb1.trans (hb2.trans hb3)
    clear hb1 hb2 hb3 hg1 hg2
    have hcells : ∀ j, j < (normL xs).length → w3.cell? ⟨g, j, none⟩ = some (.int .i64 ((normL xs).getD j 0)) := fun j hj => by
      rw [hown3.cellAt j (by omega)]; simp [List.getD, hj]
    have HC := Lib.hid hcells; clear hcells
    have hget := hI.get
    have HG := Lib.hid hget; clear hget
    obtain ⟨l, hl⟩ : ∃ l, normL xs = l := ⟨_, rfl⟩
    rw [hl] at HC HG hown3 hnl
    rw [hl]
    have HL := Lib.hid hl; clear hl hI
    go_wp2_with fail
    go_loopw [5] (fun i wr => ∃ k q : Nat, k ≤ l.length ∧ i = .int .i64 ((k : Int) + 1) ∧ wr = w3.drewN q ∧ Hid (saysTo l (k + 1))) (fun i _ => l.length + 1 - (intOf i).toNat)
    case atStart => exact ⟨0, 0, Nat.zero_le _, rfl, rfl, fun i h1 h2 => by omega⟩
    case round =>
      obtain ⟨k, q, hk, rfl, rfl, HS⟩ := hrel
      by_cases hlt : k + 1 < l.length
      · have g1 : w3.cell? ⟨g, k + 1, none⟩ = some (.int .i64 (l.getD (k + 1) 0)) := HC.out (k + 1) hlt
        have g2 : w3.cell? ⟨g, k, none⟩ = some (.int .i64 (l.getD k 0)) := HC.out k (by omega)
        have hbd := HG.out k
        generalize hx1 : l.getD (k + 1) 0 = x1 at *
        generalize hx2 : l.getD k 0 = x2 at *
        have HX := Lib.hid (And.intro hx1 hx2); clear hx1 hx2
        obtain ⟨hbd1, hbd2⟩ := hbd
        by_cases he : x1 = -x2
        · have heb : (x1 == -x2) = true := by rw [he]; simp
          have HE := Lib.hid he; clear he
          go_wp2
          go_quiet (fail)
          go_wp2
          go_ret2
          exact ⟨_, by rw [HL.out, normSays_false l (k + 1) (by omega) hlt (by rw [HX.out.1, Nat.add_sub_cancel, HX.out.2]; exact HE.out)]; rfl, hbw.trans ((below_draws ⟨_, World.drewN_drewN _ _ _⟩).mono hbw.size), by rw [HL.out]; exact own_keep hown3 (below_draws ⟨_, World.drewN_drewN _ _ _⟩)⟩
        · have heb : (x1 == -x2) = false := by simp [he]
          have HE := Lib.hid he; clear he
          go_wp2
          go_quiet (fail)
          go_wp2
          go_roundw
          case rel =>
            refine ⟨k + 1, _, by omega, by go_num, rfl, fun i h1 h2 => ?_⟩
            by_cases e : i = k + 1
            · rw [e, HX.out.1, Nat.add_sub_cancel, HX.out.2]; exact HE.out
            · exact HS.out i h1 (by omega)
          case measure => simp [intOf]; omega
      · have HA := Lib.hid (show saysTo l l.length from fun i h1 h2 => HS.out i h1 (by omega))
        go_wp2
        go_ret2
        exact ⟨_, by rw [HL.out, normSays_true l HA.out]; rfl, hbw.trans ((below_draws ⟨_, rfl⟩).mono hbw.size), by rw [HL.out]; exact own_keep hown3 (below_draws ⟨_, rfl⟩)⟩
end Go.Proofs.Ytjlmooimdogmjaa
