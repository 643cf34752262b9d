/- The law LitsNorm by its callees' contracts: whatever the input, it returns true and leaves what was there. No conditions. -/
import Derived.Test.YtcndkdlpicffpaaSame
import Derived.Test.YtcndkdlpicffpaaFirst
import Derived.Test.YtcndkdlpicffpaaNear
import Derived.Deep.RegionLaw
import Derived.Deep.DeepCutAuto
import Derived.Deep.LoopGhost
namespace Go.Proofs.Ytcndkdlpicffpaa
open Go.RowKit

/-- What the first loop keeps: a row of the call's own with the same members as the first k of cs. -/
structure Ins (w0 : World) (B : Nat) (cs : List Int) (k : Nat) (d : Value) (w : World) : Prop where
  below : Below B w0 w
  base : B ≤ w.heap.size
  nil : k = 0 → d = .slice none 0 0
  row : ∃ l : List Int, l.length = k ∧ w.ownsRow B 3 1 d k (l.map (Value.int .i64)) ∧ ∀ x, x ∈ l ↔ x ∈ cs.take k

theorem take_mem (cs : List Int) (k : Nat) (h : k < cs.length) (x : Int) : x ∈ cs.take (k + 1) ↔ x ∈ cs.take k ∨ x = cs.getD k 0 := by
  rw [take_snoc cs k h]; simp

theorem addr_add (g o j : Nat) : (⟨g, o, none⟩ : Addr).add j = ⟨g, o + j, none⟩ := by
  by_cases e : j = 0
  · subst e; rfl
  · simp [Addr.add, e]
theorem cells_drop {w : World} {B : Nat} {e : TypeId} {g n cap : Nat} {l : List Int} (h : w.ownsRow B e 1 (.slice (some ⟨g, 0, none⟩) n cap) n (l.map (Value.int .i64))) (k : Nat) :
    ∀ j, j < n - k → w.cell? ((⟨g, k, none⟩ : Addr).add j) = some (.int .i64 ((l.drop k).getD j 0)) := fun j hj => by
  have hl := own_len h
  have hkj : k + j < l.length := by omega
  rw [addr_add, h.cellAt _ (by omega)]
  simp [List.getD, hkj]
theorem ins_mem (l : List Int) (k : Nat) (x y : Int) : y ∈ l.take k ++ [x] ++ l.drop k ↔ y ∈ l ∨ y = x := by
  have h : y ∈ l ↔ y ∈ l.take k ∨ y ∈ l.drop k := by
    conv => lhs; rw [← List.take_append_drop k l, List.mem_append]
  rw [h, List.mem_append, List.mem_append, List.mem_singleton]
  constructor
  · rintro ((a | a) | a)
    · exact .inl (.inl a)
    · exact .inr a
    · exact .inl (.inr a)
  · rintro ((a | a) | a)
    · exact .inl (.inl a)
    · exact .inr a
    · exact .inl (.inr a)
theorem ins_step {w0 wr w9 : World} {B k n9 : Nat} {cs l9 : List Int} {d v9 : Value} {x : Int} (h : Ins w0 B cs k d wr) (hk : k < cs.length) (hx : cs.getD k 0 = x) (hn : n9 = k + 1)
    (hown : w9.ownsRow wr.heap.size 3 1 v9 n9 (l9.map (Value.int .i64))) (hb : Below wr.heap.size wr w9) (hm : ∀ y, y ∈ l9 ↔ y ∈ cs.take k ∨ y = x) : Hid (Ins w0 B cs (k + 1) v9 w9) := by
  subst hn
  exact ⟨h.below.trans (hb.mono h.base), Nat.le_trans h.base hb.size, fun e => by omega, l9, by have := own_len hown; omega, own_base hown h.base, fun y => by rw [hm, take_mem cs k hk, hx]⟩

theorem norm_as (v : Value) (xs : List Int) (w : World) (hv : Row w v xs) (hxs : InW xs) (hn : xs.length < 1000000000) (l0 : List Int) (hl : normL xs = l0) (sb : Bool) (hs : normSays l0 = sb) :
    Calls Try.prog 8 #[v] w fun e w' => ∃ v', e = .returned (.tuple #[v', .bool sb]) ∧ Below w.heap.size w w' ∧ w'.ownsRow w.heap.size 3 1 v' l0.length (l0.map (Value.int .i64)) :=
  (norm_any v xs w hv hxs hn).mono fun e w' ⟨v', he, hb, ho⟩ => ⟨v', by rw [he, hl, hs], hb, by rw [hl] at ho; exact ho⟩

/-- What the second loop asks of neighbours. -/
theorem norm_near (l : List Int) (hp : l.Pairwise ltP) (hw : InW l) (i : Nat) (hi : i + 1 < l.length) :
    ¬ absI (l.getD (i + 1) 0) < absI (l.getD i 0) ∧ (absI (l.getD (i + 1) 0) = absI (l.getD i 0) → ¬ l.getD (i + 1) 0 ≤ l.getD i 0 ∧ normSays l = false) := by
  have hlt := List.pairwise_iff_getElem.1 hp i (i + 1) (by omega) hi (by omega)
  have e1 : l.getD (i + 1) 0 = l[i + 1] := by simp [List.getD, hi]
  have e0 : l.getD i 0 = l[i] := by simp [List.getD, show i < l.length by omega]
  have b1 := hw _ (List.getElem_mem hi)
  have b0 := hw _ (List.getElem_mem (show i < l.length by omega))
  have hv : ∀ x : Int, -9223372036854775807 ≤ x → x ≤ 9223372036854775807 → vw x = absI x := fun x h1 h2 => by
    unfold vw absI
    by_cases h : x < 0
    · rw [if_pos h, if_pos h, IntWalk.wrap64_in _ ⟨by omega, by omega⟩]
    · rw [if_neg h, if_neg h]
  unfold ltP at hlt
  rw [hv _ b1.1 b1.2, hv _ b0.1 b0.2] at hlt
  rw [e1, e0]
  refine ⟨by omega, fun e => ⟨by omega, ?_⟩⟩
  refine normSays_false l (i + 1) (by omega) hi ?_
  rw [Nat.add_sub_cancel, e1, e0]
  unfold absI at e hlt
  split at e <;> split at e <;> omega

set_option maxHeartbeats 8000000 in
set_option maxRecDepth 100000 in
theorem lawNorm (a : Option Addr) (c : Nat) (cs : List Int) (a' : Option Addr) (c' : Nat) (os : List Int) (w : World) (hv : RowAt w a c cs) (hu : RowAt w a' c' os)
    (hcs : ∀ y ∈ cs, -9223372036854775808 ≤ y ∧ y ≤ 9223372036854775807) (hos : ∀ y ∈ os, -9223372036854775808 ≤ y ∧ y ≤ 9223372036854775807) :
    Calls Try.prog 3 #[.slice a cs.length c, .slice a' os.length c'] w fun e w' => e = .returned (.bool true) ∧ Below w.heap.size w w' := by
  have HF := Lib.hid first_any
  have HRC := Lib.hid (show Row w (.slice a cs.length c) cs from ⟨_, _, rfl, hv⟩)
  have HCS := Lib.hid hcs; clear hcs
  have HOS := Lib.hid hos; clear hos
  have HNE := Lib.hid (fun W (hW : Below w.heap.size w W) => near_any _ cs W (HRC.out.keep hW))
  obtain ⟨hvc, hcm, hv⟩ := hv
  obtain ⟨huc, hcm', hu⟩ := hu
  unfold maxLen at hcm hcm'
  have HA := Lib.hid hv; clear hv
  have HB := Lib.hid hu; clear hu
  generalize hN : cs.length = n at *
  have HN := Lib.hid hN; clear hN
  generalize hM : os.length = m at *
  have HM := Lib.hid hM; clear hM
  by_cases hlen : 40 < n
  · have hd1 : decide (40 < (n : Int)) = true := by simp; omega
    go_enter Try.func3, Try.ntmps3
    go_wp2_with (go_at_call 6; refine (HF.out _).mono ?_; rintro e w' ⟨rfl, hb⟩)
    go_ret
    exact ⟨rfl, hb⟩
  have hd1 : decide (40 < (n : Int)) = false := by simp; omega
  by_cases hlen2 : 40 < m
  · have hd2 : decide (40 < (m : Int)) = true := by simp; omega
    go_enter Try.func3, Try.ntmps3
    go_wp2_with (go_at_call 6; refine (HF.out _).mono ?_; rintro e w' ⟨rfl, hb⟩)
    go_ret
    exact ⟨rfl, hb⟩
  have hd2 : decide (40 < (m : Int)) = false := by simp; omega
  cases hnear : cs.all nearB with
  | false =>
    rw [hnear] at HNE
    clear hnear
    go_enter Try.func3, Try.ntmps3
    go_wp2_with (first | (go_at_call 6; refine (HF.out _).mono ?_; rintro e w1 ⟨rfl, hb⟩) | (go_at_call 7; refine (HNE.out _ hb).mono ?_; rintro e w' ⟨rfl, rfl⟩))
    go_ret
    exact ⟨rfl, hb⟩
  | true =>
    rw [hnear] at HNE
    have hInW : InW cs := fun x hx => ⟨by have := (nearB_iff x).1 (List.all_eq_true.1 hnear x hx); omega, (HCS.out x hx).2⟩
    clear hnear
    have HIW := Lib.hid hInW; clear hInW
    obtain ⟨l0, hl0⟩ : ∃ l0, normL cs = l0 := ⟨_, rfl⟩
    obtain ⟨sb, hsb⟩ : ∃ sb, normSays l0 = sb := ⟨_, rfl⟩
    have hI0 : InW l0 := by rw [← hl0]; exact inW_norm HIW.out
    have hlen0 : l0.length ≤ n := by have := normL_len cs; rw [hl0] at this; rw [HN.out] at this; exact this
    have HX := Lib.hid (fun W (hW : Below w.heap.size w W) => norm_as _ cs W (HRC.out.keep hW) HIW.out (by rw [HN.out]; omega) l0 hl0 sb hsb)
    have HY := Lib.hid (fun v W (hR : Row W v l0) => norm_as v l0 W hR hI0 (by omega) l0 (by rw [← hl0]; exact norm_norm cs) sb hsb)
    have HZ := Lib.hid (fun v W (l : List Int) (hR : Row W v (l ++ l)) (hm : ∀ x, x ∈ l ↔ x ∈ cs) (hl : l.length = n) => norm_as v (l ++ l) W hR (fun x hx => HIW.out x ((hm x).1 (by simpa using hx))) (by simp; omega) l0 (by rw [← hl0]; exact norm_congr _ _ fun x => by simp [hm]) sb hsb)
    have HQ0 := Lib.hid (show l0.Pairwise ltP from by rw [← hl0]; exact (norm_spec cs).1)
    have HM0 := Lib.hid (show ∀ x, x ∈ l0 ↔ x ∈ cs from by rw [← hl0]; exact (norm_spec cs).2)
    have HS0 := Lib.hid hsb
    have HI0 := Lib.hid hI0
    clear hl0 hsb hI0
    go_enter Try.func3, Try.ntmps3
    go_wp2_with fail
    refine (HF.out _).mono ?_
    rintro e w1 ⟨rfl, hb1⟩
    go_wp2_with fail
    refine (HNE.out _ hb1).mono ?_
    rintro e w1' ⟨rfl, rfl⟩
    go_wp2_with fail
    refine (HX.out _ hb1).mono ?_
    rintro e w2 ⟨x1, rfl, hb2, hox⟩
    have hb2w := hb1.trans (hb2.mono hb1.size)
    obtain ⟨ax, cx, rfl, hax1, hax2⟩ := own_shape hox
    unfold maxLen at hax2
    go_wp2_with fail
    refine (HY.out _ _ (own_row hox)).mono ?_
    rintro e w3 ⟨y1, rfl, hb3, hoy⟩
    have hbA : Below w.heap.size w w3 := hb2w.trans (hb3.mono hb2w.size)
    have hoxA := own_keep hox hb3
    have HOX := Lib.hid hoxA
    have HOY := Lib.hid hoy
    have hszA := hbA.size
    clear hox hoy hoxA hb3 hb2w hb2 hb1
    have hL0 : Ins w3 w3.heap.size cs 0 (.slice none 0 0) w3 := ⟨Below.refl _ _, Nat.le_refl _, fun _ => rfl, [], rfl, World.ownsRow_nil _ _ _ _, by simp⟩
    have HL0 := Lib.hid hL0; clear hL0
    go_wp2_with fail
    go_loopw [10, 11] (fun d i wr => ∃ k : Nat, k ≤ n ∧ i = .int .i64 k ∧ Hid (Ins w3 w3.heap.size cs k d wr)) (fun _ i _ => n - (intOf i).toNat)
    case atStart => exact ⟨0, Nat.zero_le _, rfl, HL0⟩
    case round =>
      obtain ⟨k, hk, rfl, HI⟩ := hrel
      clear HL0
      by_cases hlt : k < n
      · have hbw := hbA.trans (HI.out.below.mono hszA)
        obtain ⟨b, off, ha, hb, hcc⟩ := HA.out.resolve_left (by omega)
        subst ha
        have gk := hcc k hlt
        clear hcc
        have g1 : wr.cell? ⟨b, off + k, none⟩ = some (.int .i64 (cs.getD k 0)) := (hbw.cell (p := ⟨b, off + k, none⟩) hb).trans gk
        have hbr : b < wr.heap.size := Nat.lt_of_lt_of_le hb hbw.size
        generalize hx : cs.getD k 0 = x at *
        have HXX := Lib.hid hx; clear hx
        by_cases h0 : k = 0
        · have hd := HI.out.nil h0
          subst hd
          have H0 := Lib.hid h0; clear h0
          have HINT0 := Lib.hid (fun W => ints_any (.slice none 0 0) [] W (Row.nil W) (by simp))
          by_cases ho : k < m
          · obtain ⟨b2, off2, ha2, hb2, hcc2⟩ := HB.out.resolve_left (by omega)
            subst ha2
            have go2 := hcc2 k ho
            clear hcc2
            have g2 : wr.cell? ⟨b2, off2 + k, none⟩ = some (.int .i64 (os.getD k 0)) := (hbw.cell (p := ⟨b2, off2 + k, none⟩) hb2).trans go2
            clear go2
            have hob : -9223372036854775808 ≤ os.getD k 0 ∧ os.getD k 0 ≤ 9223372036854775807 := by
              have hk' : k < os.length := by rw [HM.out]; exact ho
              have := HOS.out _ (List.getElem_mem hk'); simpa [List.getD, hk'] using this
            obtain ⟨hob1, hob2⟩ := hob
            generalize os.getD k 0 = o at *
            go_upto_region 15 with (fail)
            go_region_law (first
              | (go_simp; go_at_call 9; refine (HINT0.out _).mono ?_; rintro e wI ⟨vI, rfl, hoI, hbI⟩; have hbI' : Below wr.heap.size wr wI := below_call (by first | exact Below.refl _ _ | exact (Below.refl _ _).drew) (by simp) hbI; have hszI : wr.heap.size ≤ wI.heap.size := hbI'.size; have gI : wI.cell? ⟨b, off + k, none⟩ = some (.int .i64 x) := (hbI'.cell (p := ⟨b, off + k, none⟩) hbr).trans g1)
              | (go_simp; go_at_call 9; refine (HINT0.out _).mono ?_; rintro e wI ⟨vI, rfl, hoI, hbI⟩; have hbI' : Below wr.heap.size wr wI := below_call (by first | exact (Below.refl _ _).alloc (Nat.le_refl _) _ | exact ((Below.refl _ _).alloc (Nat.le_refl _) _).drew) (by simp) hbI; have hszI : wr.heap.size + 1 ≤ wI.heap.size := (by have := hbI.size; simp at this; omega); have gX : wI.cell? ⟨wr.heap.size, 0, none⟩ = some (.int .i64 x) := (hbI.cell (p := ⟨wr.heap.size, 0, none⟩) (by simp)).trans (by show (wr.alloc (.cells #[.int .i64 x] 3)).cell? _ = _; rw [World.cell?_alloc_at _ _ _ _ rfl]; rfl))
              | (refine step_app rfl _ _ rfl _ wr.heap.size vI _ ([] : List Int) ⟨wI.heap.size, 0, none⟩ 1 1 [x] (by exact (own_base hoI (by simp)).alloc _) (by simp; omega) (by first | omega | (simp; done) | (simp; omega)) rfl (by intro j hj; match j, hj with | 0, _ => simp [Addr.add]) rfl rfl ?_; intro v8 w8 hown8 hb8'; have hb8 : Below wr.heap.size wr w8 := (hbI'.alloc hszI _).trans hb8')
              | (refine step_app rfl _ _ rfl _ wr.heap.size vI _ ([] : List Int) ⟨wr.heap.size, 0, none⟩ 1 1 [x] (by exact own_base hoI (by simp)) (by omega) (by first | omega | (simp; done) | (simp; omega)) rfl (by intro j hj; match j, hj with | 0, _ => simpa [Addr.add] using gX) rfl rfl ?_; intro v8 w8 hown8 hb8'; have hb8 : Below wr.heap.size wr w8 := hbI'.trans hb8'))
            all_goals
              obtain ⟨g8, c8, rfl, _, hc81, hc82, _⟩ := own_some hown8 (by first | omega | (simp; done) | (simp; omega))
              have hsz8 := hb8.size
              go_wp2_with (at_builtin; refine wpList_app rfl _ _ rfl w8 wr.heap.size _ _ _ none 0 0 [] hown8 hsz8 (by simp) rfl (.inl rfl) (fun _ => rfl) rfl rfl ?_; intro v9 w9 hown9 hb9)
              go_roundw
              case rel => exact ⟨k + 1, by omega, by go_num, ins_step HI.out (by rw [HN.out]; exact hlt) HXX.out (by have e := H0.out; first | omega | (simp; done) | (simp; omega)) hown9 (hb8.trans hb9) (by intro y; simp [H0.out])⟩
              case measure => simp [intOf]; omega
          · go_upto_region 15 with (fail)
            go_region_law (first
              | (go_simp; go_at_call 9; refine (HINT0.out _).mono ?_; rintro e wI ⟨vI, rfl, hoI, hbI⟩; have hbI' : Below wr.heap.size wr wI := below_call (by first | exact Below.refl _ _ | exact (Below.refl _ _).drew) (by simp) hbI; have hszI : wr.heap.size ≤ wI.heap.size := hbI'.size; have gI : wI.cell? ⟨b, off + k, none⟩ = some (.int .i64 x) := (hbI'.cell (p := ⟨b, off + k, none⟩) hbr).trans g1)
              | (go_simp; go_at_call 9; refine (HINT0.out _).mono ?_; rintro e wI ⟨vI, rfl, hoI, hbI⟩; have hbI' : Below wr.heap.size wr wI := below_call (by first | exact (Below.refl _ _).alloc (Nat.le_refl _) _ | exact ((Below.refl _ _).alloc (Nat.le_refl _) _).drew) (by simp) hbI; have hszI : wr.heap.size + 1 ≤ wI.heap.size := (by have := hbI.size; simp at this; omega); have gX : wI.cell? ⟨wr.heap.size, 0, none⟩ = some (.int .i64 x) := (hbI.cell (p := ⟨wr.heap.size, 0, none⟩) (by simp)).trans (by show (wr.alloc (.cells #[.int .i64 x] 3)).cell? _ = _; rw [World.cell?_alloc_at _ _ _ _ rfl]; rfl))
              | (refine step_app rfl _ _ rfl _ wr.heap.size vI _ ([] : List Int) ⟨wI.heap.size, 0, none⟩ 1 1 [x] (by exact (own_base hoI (by simp)).alloc _) (by simp; omega) (by first | omega | (simp; done) | (simp; omega)) rfl (by intro j hj; match j, hj with | 0, _ => simp [Addr.add]) rfl rfl ?_; intro v8 w8 hown8 hb8'; have hb8 : Below wr.heap.size wr w8 := (hbI'.alloc hszI _).trans hb8')
              | (refine step_app rfl _ _ rfl _ wr.heap.size vI _ ([] : List Int) ⟨wr.heap.size, 0, none⟩ 1 1 [x] (by exact own_base hoI (by simp)) (by omega) (by first | omega | (simp; done) | (simp; omega)) rfl (by intro j hj; match j, hj with | 0, _ => simpa [Addr.add] using gX) rfl rfl ?_; intro v8 w8 hown8 hb8'; have hb8 : Below wr.heap.size wr w8 := hbI'.trans hb8'))
            all_goals
              obtain ⟨g8, c8, rfl, _, hc81, hc82, _⟩ := own_some hown8 (by first | omega | (simp; done) | (simp; omega))
              have hsz8 := hb8.size
              go_wp2_with (at_builtin; refine wpList_app rfl _ _ rfl w8 wr.heap.size _ _ _ none 0 0 [] hown8 hsz8 (by simp) rfl (.inl rfl) (fun _ => rfl) rfl rfl ?_; intro v9 w9 hown9 hb9)
              go_roundw
              case rel => exact ⟨k + 1, by omega, by go_num, ins_step HI.out (by rw [HN.out]; exact hlt) HXX.out (by have e := H0.out; first | omega | (simp; done) | (simp; omega)) hown9 (hb8.trans hb9) (by intro y; simp [H0.out])⟩
              case measure => simp [intOf]; omega

        · obtain ⟨l, hl, hown, hmem⟩ := HI.out.row
          obtain ⟨g, cap, rfl, hg1, hg2, hc1, hc2⟩ := own_some hown (by omega)
          unfold maxLen at hc2
          have HMEM := Lib.hid hmem; clear hmem
          have HLL := Lib.hid hl; clear hl
          have HINT := Lib.hid (show ∀ (j : Nat), j ≤ k → ∀ W, Below wr.heap.size wr W → Calls Try.prog 9 #[.slice (some ⟨g, 0, none⟩) j cap] W fun e w' => ∃ v', e = .returned v' ∧ w'.ownsRow W.heap.size 3 1 v' j ((l.take j).map (Value.int .i64)) ∧ Below W.heap.size W w' from fun j hj W hW => by
            have h := ints_any _ (l.take j) W ((own_cut hown j hj).keep hW) (by simp; omega)
            rwa [show (l.take j).length = j by simp; rw [HLL.out]; omega] at h)
          by_cases ho : k < m
          · obtain ⟨b2, off2, ha2, hb2, hcc2⟩ := HB.out.resolve_left (by omega)
            subst ha2
            have go2 := hcc2 k ho
            clear hcc2
            have g2 : wr.cell? ⟨b2, off2 + k, none⟩ = some (.int .i64 (os.getD k 0)) := (hbw.cell (p := ⟨b2, off2 + k, none⟩) hb2).trans go2
            clear go2
            have hob : -9223372036854775808 ≤ os.getD k 0 ∧ os.getD k 0 ≤ 9223372036854775807 := by
              have hk' : k < os.length := by rw [HM.out]; exact ho
              have := HOS.out _ (List.getElem_mem hk'); simpa [List.getD, hk'] using this
            obtain ⟨hob1, hob2⟩ := hob
            generalize os.getD k 0 = o at *
            have t1 := Int.tmod_lt_of_pos o (show (0 : Int) < (k : Int) + 1 by omega)
            have t2 := Int.lt_tmod_of_pos o (show (0 : Int) < (k : Int) + 1 by omega)
            have hnn := Int.emod_nonneg (o.tmod ((k : Int) + 1)) (show (k : Int) + 1 ≠ 0 by omega)
            have hlt2 := Int.emod_lt_of_pos (o.tmod ((k : Int) + 1)) (show (0 : Int) < (k : Int) + 1 by omega)
            obtain ⟨kk, hkk⟩ : ∃ kk : Nat, o.tmod ((k : Int) + 1) % ((k : Int) + 1) = (kk : Int) := ⟨(o.tmod ((k : Int) + 1) % ((k : Int) + 1)).toNat, by omega⟩
            have hkk2 : (o.tmod ((k : Int) + 1) + (k : Int) + 1) % ((k : Int) + 1) = (kk : Int) := by rw [show o.tmod ((k : Int) + 1) + (k : Int) + 1 = o.tmod ((k : Int) + 1) + ((k : Int) + 1) by omega, Int.add_emod_right]; exact hkk
            have hkkle : kk ≤ k := by omega
            have hi1 : (0 : Int) ≤ (kk : Int) := by omega
            have hi2 : (kk : Int) ≤ (cap : Int) := by omega
            have hi3 : (kk : Int) ≤ (k : Int) := by omega
            clear hnn hlt2
            by_cases hcap : cap = kk
            · obtain rfl : k = kk := by omega
              obtain rfl : k = cap := by omega
              clear hcap
              go_upto_region 15 with (fail)
              go_region_law (first
                | (go_simp; go_at_call 9; refine (HINT.out k (by omega) _ (by first | exact Below.refl _ _ | exact (Below.refl _ _).drew | exact (Below.refl _ _).alloc (Nat.le_refl _) _ | exact ((Below.refl _ _).alloc (Nat.le_refl _) _).drew)).mono ?_; rintro e wI ⟨vI, rfl, hoI, hbI⟩; have hbI' : Below wr.heap.size wr wI := below_call (by first | exact Below.refl _ _ | exact (Below.refl _ _).drew) (by simp) hbI; have hszI : wr.heap.size ≤ wI.heap.size := hbI'.size; have gI : wI.cell? ⟨b, off + k, none⟩ = some (.int .i64 x) := (hbI'.cell (p := ⟨b, off + k, none⟩) hbr).trans g1)
                | (go_simp; go_at_call 9; refine (HINT.out k (by omega) _ (by first | exact Below.refl _ _ | exact (Below.refl _ _).drew | exact (Below.refl _ _).alloc (Nat.le_refl _) _ | exact ((Below.refl _ _).alloc (Nat.le_refl _) _).drew)).mono ?_; rintro e wI ⟨vI, rfl, hoI, hbI⟩; have hbI' : Below wr.heap.size wr wI := below_call (by first | exact (Below.refl _ _).alloc (Nat.le_refl _) _ | exact ((Below.refl _ _).alloc (Nat.le_refl _) _).drew) (by simp) hbI; have hszI : wr.heap.size + 1 ≤ wI.heap.size := (by have := hbI.size; simp at this; omega); have gX : wI.cell? ⟨wr.heap.size, 0, none⟩ = some (.int .i64 x) := (hbI.cell (p := ⟨wr.heap.size, 0, none⟩) (by simp)).trans (by show (wr.alloc (.cells #[.int .i64 x] 3)).cell? _ = _; rw [World.cell?_alloc_at _ _ _ _ rfl]; rfl))
                | (refine step_app rfl _ _ rfl _ wr.heap.size vI _ (l.take k) ⟨wI.heap.size, 0, none⟩ 1 1 [x] (by exact (own_base hoI (by simp)).alloc _) (by simp; omega) (by first | omega | (simp; done) | (simp; omega)) rfl (by intro j hj; match j, hj with | 0, _ => simp [Addr.add]) rfl rfl ?_; intro v8 w8 hown8 hb8'; have hb8 : Below wr.heap.size wr w8 := (hbI'.alloc hszI _).trans hb8')
                | (refine step_app rfl _ _ rfl _ wr.heap.size vI _ (l.take k) ⟨wr.heap.size, 0, none⟩ 1 1 [x] (by exact own_base hoI (by simp)) (by omega) (by first | omega | (simp; done) | (simp; omega)) rfl (by intro j hj; match j, hj with | 0, _ => simpa [Addr.add] using gX) rfl rfl ?_; intro v8 w8 hown8 hb8'; have hb8 : Below wr.heap.size wr w8 := hbI'.trans hb8'))
              all_goals
                obtain ⟨g8, c8, rfl, _, hc81, hc82, _⟩ := own_some hown8 (by first | omega | (simp; done) | (simp; omega))
                have hsz8 := hb8.size
                go_wp2_with (at_builtin; refine wpList_app rfl _ _ rfl w8 wr.heap.size _ _ _ _ 0 _ [] hown8 hsz8 (by first | omega | (simp; done) | (simp; omega)) rfl (.inl rfl) (by intro h; cases h) rfl rfl ?_; intro v9 w9 hown9 hb9)
                go_roundw
                case rel => exact ⟨k + 1, by omega, by go_num, ins_step HI.out (by rw [HN.out]; exact hlt) HXX.out (by first | omega | (simp; done) | (simp; omega)) hown9 (hb8.trans hb9) (by intro y; rw [List.append_nil, List.mem_append, List.mem_singleton, List.take_of_length_le (by rw [HLL.out]; exact Nat.le_refl _)]; exact or_congr (HMEM.out y) Iff.rfl)⟩
                case measure => simp [intOf]; omega
            · go_upto_region 15 with (fail)
              go_region_law (first
                | (go_simp; go_at_call 9; refine (HINT.out kk (by omega) _ (by first | exact Below.refl _ _ | exact (Below.refl _ _).drew | exact (Below.refl _ _).alloc (Nat.le_refl _) _ | exact ((Below.refl _ _).alloc (Nat.le_refl _) _).drew)).mono ?_; rintro e wI ⟨vI, rfl, hoI, hbI⟩; have hbI' : Below wr.heap.size wr wI := below_call (by first | exact Below.refl _ _ | exact (Below.refl _ _).drew) (by simp) hbI; have hszI : wr.heap.size ≤ wI.heap.size := hbI'.size; have gI : wI.cell? ⟨b, off + k, none⟩ = some (.int .i64 x) := (hbI'.cell (p := ⟨b, off + k, none⟩) hbr).trans g1)
                | (go_simp; go_at_call 9; refine (HINT.out kk (by omega) _ (by first | exact Below.refl _ _ | exact (Below.refl _ _).drew | exact (Below.refl _ _).alloc (Nat.le_refl _) _ | exact ((Below.refl _ _).alloc (Nat.le_refl _) _).drew)).mono ?_; rintro e wI ⟨vI, rfl, hoI, hbI⟩; have hbI' : Below wr.heap.size wr wI := below_call (by first | exact (Below.refl _ _).alloc (Nat.le_refl _) _ | exact ((Below.refl _ _).alloc (Nat.le_refl _) _).drew) (by simp) hbI; have hszI : wr.heap.size + 1 ≤ wI.heap.size := (by have := hbI.size; simp at this; omega); have gX : wI.cell? ⟨wr.heap.size, 0, none⟩ = some (.int .i64 x) := (hbI.cell (p := ⟨wr.heap.size, 0, none⟩) (by simp)).trans (by show (wr.alloc (.cells #[.int .i64 x] 3)).cell? _ = _; rw [World.cell?_alloc_at _ _ _ _ rfl]; rfl))
                | (refine step_app rfl _ _ rfl _ wr.heap.size vI _ (l.take kk) ⟨wI.heap.size, 0, none⟩ 1 1 [x] (by exact (own_base hoI (by simp)).alloc _) (by simp; omega) (by first | omega | (simp; done) | (simp; omega)) rfl (by intro j hj; match j, hj with | 0, _ => simp [Addr.add]) rfl rfl ?_; intro v8 w8 hown8 hb8'; have hb8 : Below wr.heap.size wr w8 := (hbI'.alloc hszI _).trans hb8')
                | (refine step_app rfl _ _ rfl _ wr.heap.size vI _ (l.take kk) ⟨wr.heap.size, 0, none⟩ 1 1 [x] (by exact own_base hoI (by simp)) (by omega) (by first | omega | (simp; done) | (simp; omega)) rfl (by intro j hj; match j, hj with | 0, _ => simpa [Addr.add] using gX) rfl rfl ?_; intro v8 w8 hown8 hb8'; have hb8 : Below wr.heap.size wr w8 := hbI'.trans hb8'))
              all_goals
                obtain ⟨g8, c8, rfl, _, hc81, hc82, _⟩ := own_some hown8 (by first | omega | (simp; done) | (simp; omega))
                have hsz8 := hb8.size
                have hdk := own_keep hown hb8
                have HDC := Lib.hid (cells_drop hdk kk)
                go_wp2_with (at_builtin; refine wpList_app rfl _ _ rfl w8 wr.heap.size _ _ _ _ (k - kk) _ (l.drop kk) hown8 hsz8 (by first | omega | (simp; done) | (simp; omega)) (by simp [HLL.out]) (by first | exact .inr ⟨_, rfl, HDC.out⟩ | (split <;> first | (left; omega) | exact .inr ⟨_, rfl, HDC.out⟩)) (by intro h; first | cases h | (split at h <;> cases h)) rfl rfl ?_; intro v9 w9 hown9 hb9)
                go_roundw
                case rel => exact ⟨k + 1, by omega, by go_num, ins_step HI.out (by rw [HN.out]; exact hlt) HXX.out (by first | omega | (simp; done) | (simp; omega)) hown9 (hb8.trans hb9) (by intro y; rw [ins_mem]; exact or_congr (HMEM.out y) Iff.rfl)⟩
                case measure => simp [intOf]; omega
          · go_upto_region 15 with (fail)
            go_region_law (first
              | (go_simp; go_at_call 9; refine (HINT.out 0 (by omega) _ (by first | exact Below.refl _ _ | exact (Below.refl _ _).drew | exact (Below.refl _ _).alloc (Nat.le_refl _) _ | exact ((Below.refl _ _).alloc (Nat.le_refl _) _).drew)).mono ?_; rintro e wI ⟨vI, rfl, hoI, hbI⟩; have hbI' : Below wr.heap.size wr wI := below_call (by first | exact Below.refl _ _ | exact (Below.refl _ _).drew) (by simp) hbI; have hszI : wr.heap.size ≤ wI.heap.size := hbI'.size; have gI : wI.cell? ⟨b, off + k, none⟩ = some (.int .i64 x) := (hbI'.cell (p := ⟨b, off + k, none⟩) hbr).trans g1)
              | (go_simp; go_at_call 9; refine (HINT.out 0 (by omega) _ (by first | exact Below.refl _ _ | exact (Below.refl _ _).drew | exact (Below.refl _ _).alloc (Nat.le_refl _) _ | exact ((Below.refl _ _).alloc (Nat.le_refl _) _).drew)).mono ?_; rintro e wI ⟨vI, rfl, hoI, hbI⟩; have hbI' : Below wr.heap.size wr wI := below_call (by first | exact (Below.refl _ _).alloc (Nat.le_refl _) _ | exact ((Below.refl _ _).alloc (Nat.le_refl _) _).drew) (by simp) hbI; have hszI : wr.heap.size + 1 ≤ wI.heap.size := (by have := hbI.size; simp at this; omega); have gX : wI.cell? ⟨wr.heap.size, 0, none⟩ = some (.int .i64 x) := (hbI.cell (p := ⟨wr.heap.size, 0, none⟩) (by simp)).trans (by show (wr.alloc (.cells #[.int .i64 x] 3)).cell? _ = _; rw [World.cell?_alloc_at _ _ _ _ rfl]; rfl))
              | (refine step_app rfl _ _ rfl _ wr.heap.size vI _ (l.take 0) ⟨wI.heap.size, 0, none⟩ 1 1 [x] (by exact (own_base hoI (by simp)).alloc _) (by simp; omega) (by first | omega | (simp; done) | (simp; omega)) rfl (by intro j hj; match j, hj with | 0, _ => simp [Addr.add]) rfl rfl ?_; intro v8 w8 hown8 hb8'; have hb8 : Below wr.heap.size wr w8 := (hbI'.alloc hszI _).trans hb8')
              | (refine step_app rfl _ _ rfl _ wr.heap.size vI _ (l.take 0) ⟨wr.heap.size, 0, none⟩ 1 1 [x] (by exact own_base hoI (by simp)) (by omega) (by first | omega | (simp; done) | (simp; omega)) rfl (by intro j hj; match j, hj with | 0, _ => simpa [Addr.add] using gX) rfl rfl ?_; intro v8 w8 hown8 hb8'; have hb8 : Below wr.heap.size wr w8 := hbI'.trans hb8'))
            all_goals
              obtain ⟨g8, c8, rfl, _, hc81, hc82, _⟩ := own_some hown8 (by first | omega | (simp; done) | (simp; omega))
              have hsz8 := hb8.size
              have hdk := own_keep hown hb8
              have HDC := Lib.hid (cells_drop hdk 0)
              go_wp2_with (at_builtin; refine wpList_app rfl _ _ rfl w8 wr.heap.size _ _ _ _ (k - 0) _ (l.drop 0) hown8 hsz8 (by first | omega | (simp; done) | (simp; omega)) (by simp [HLL.out]) (by first | exact .inr ⟨_, rfl, HDC.out⟩ | (split <;> first | (left; omega) | exact .inr ⟨_, rfl, HDC.out⟩)) (by intro h; first | cases h | (split at h <;> cases h)) rfl rfl ?_; intro v9 w9 hown9 hb9)
              go_roundw
              case rel => exact ⟨k + 1, by omega, by go_num, ins_step HI.out (by rw [HN.out]; exact hlt) HXX.out (by first | omega | (simp; done) | (simp; omega)) hown9 (hb8.trans hb9) (by intro y; rw [ins_mem]; exact or_congr (HMEM.out y) Iff.rfl)⟩
              case measure => simp [intOf]; omega
      · have hkn : k = n := by omega
        obtain ⟨l, hl, hown, hmem⟩ := HI.out.row
        rw [hkn] at hown hl
        rw [hkn, List.take_of_length_le (by rw [HN.out]; exact Nat.le_refl _)] at hmem
        have hnil := HI.out.nil
        rw [hkn] at hnil
        have hbd := hbA.trans (HI.out.below.mono hszA)
        have HBL := Lib.hid HI.out.below
        have HMEM := Lib.hid hmem; clear hmem
        have HLL := Lib.hid hl; clear hl
        have hszr : w3.heap.size ≤ wr.heap.size := HI.out.base
        have HKN := Lib.hid hkn
        obtain ⟨wo, rfl⟩ : ∃ wo : World, wo = wr := ⟨_, rfl⟩
        obtain ⟨ad, cd, rfl, hcd1, hcd2⟩ := own_shape hown
        unfold maxLen at hcd2
        have HAC : Hid ((Value.slice ad n cd = .slice none 0 0 ∧ n = 0 ∧ ad = none ∧ cd = 0) ∨ ∃ g cap ad', Value.slice ad n cd = .slice (some ⟨g, 0, none⟩) n cap ∧ ad = some ad' ∧ ∀ j, j < n → wo.cell? (ad'.add j) = some (.int .i64 (l.getD j 0))) := by
          rcases Nat.eq_zero_or_pos n with h0 | h0
          · have e := hnil h0
            injection e with e1 _ e3
            exact .inl ⟨by rw [e1, e3, h0], h0, e1, e3⟩
          · right
            obtain ⟨g, cap, e', _⟩ := own_some hown h0
            injection e' with e1 _ e3
            subst e1; subst e3
            exact ⟨g, cd, ⟨g, 0, none⟩, rfl, rfl, fun j hj => by have := cells_drop hown 0 j (by omega); simpa using this⟩
        clear hnil hlt
        go_wp2_with (at_builtin; refine wpList_appK rfl _ _ rfl wo w3.heap.size _ _ l _ n _ l hown hszr (by omega) HLL.out HAC.out rfl rfl ?_; intro v5 w5 hown5 hown5d hb5)
        have hb5w := hbd.trans (hb5.mono hszA)
        have hbl5 : Below w3.heap.size w3 w5 := HBL.out.trans hb5
        clear hkn
        go_wp2_with fail
        refine (HZ.out _ _ l (own_row hown5) HMEM.out HLL.out).mono ?_
        rintro e w6 ⟨z1, rfl, hb6, hoz⟩
        have hsz5 := hbl5.size
        have hbl6 : Below w3.heap.size w3 w6 := hbl5.trans (hb6.mono hsz5)
        have hb6w := hb5w.trans (hb6.mono hb5w.size)
        have Rx : Row w6 (.slice ax l0.length cx) l0 := (own_row HOX.out).keep hbl6
        have Ry : Row w6 y1 l0 := (own_row HOY.out).keep hbl6
        have Rz : Row w6 z1 l0 := own_row hoz
        have Rd : Row w6 (.slice ad n cd) l := (own_row hown5d).keep hb6
        have HRD := Lib.hid Rd; clear Rd
        have HRX := Lib.hid Rx
        have HRY := Lib.hid Ry
        have HRZ := Lib.hid Rz
        clear Rx Ry Rz hb5 hb6 hoz hown hown5 hown5d
        have HHAS := Lib.hid (show ∀ (x : Int), x ∈ cs → ∀ t, Calls Try.prog 10 #[.slice a n c, .int .i64 x] (w6.drewN t) fun e w' => e = .returned (.bool true) ∧ w' = w6.drewN t from fun x hx t => by
          have hb : Below w.heap.size w (w6.drewN t) := hb6w.trans ((below_draws ⟨t, rfl⟩).mono hb6w.size)
          refine (has_any _ cs x _ (HRC.out.keep hb)).mono ?_
          rintro e w' ⟨rfl, rfl⟩
          exact ⟨by simp [hx], rfl⟩)
        have HVAR := Lib.hid (show ∀ (x : Int), x ∈ l0 → ∀ t, Calls Try.prog 11 #[.int .i64 x] (w6.drewN t) fun e w' => e = .returned (.int .i64 (absI x)) ∧ w' = w6.drewN t from fun x hx t => by
          have hb := HI0.out x hx
          refine (var_any x _ hb.1 hb.2).mono ?_
          rintro e w' ⟨rfl, rfl⟩
          exact ⟨rfl, rfl⟩)
        go_wp2_with fail
        go_loopw [16] (fun i wr => ∃ k t : Nat, k ≤ l0.length ∧ i = .int .i64 k ∧ wr = w6.drewN t) (fun i _ => l0.length - (intOf i).toNat)
        case atStart => exact ⟨0, 0, Nat.zero_le _, rfl, rfl⟩
        case round =>
          obtain ⟨k, t, hk, rfl, rfl⟩ := hrel
          by_cases hlt : k < l0.length
          · obtain ⟨b, off, ha, hb, hc⟩ := (rowAt_of_row HRX.out).2.2.2.resolve_left (by omega)
            subst ha
            have g1 : w6.cell? ⟨b, off + k, none⟩ = some (.int .i64 (l0.getD k 0)) := hc k hlt
            have HC := Lib.hid hc; clear hc
            have hm1 : l0.getD k 0 ∈ l0 := by simp [List.getD, hlt]
            have HH1 := Lib.hid (HHAS.out _ ((HM0.out _).1 hm1))
            have HV1 := Lib.hid (HVAR.out _ hm1)
            clear hm1
            cases k with
            | zero =>
              generalize l0.getD 0 0 = p1 at *
              have g0 : w6.cell? ⟨b, off, none⟩ = some (.int .i64 p1) := by simpa using g1
              go_wp2_with fail
              go_quiet ((go_at_call 10; refine (HH1.out _).mono ?_; rintro e w' ⟨rfl, rfl⟩; exact ⟨rfl, _, rfl⟩))
              go_wp2
              go_roundw
              case rel => exact ⟨1, _, by omega, by go_num, rfl⟩
              case measure => simp [intOf]; omega
            | succ j =>
              have g2 : w6.cell? ⟨b, off + j, none⟩ = some (.int .i64 (l0.getD j 0)) := HC.out j (by omega)
              have hm2 : l0.getD j 0 ∈ l0 := by simp [List.getD, show j < l0.length by omega]
              have HV2 := Lib.hid (HVAR.out _ hm2)
              have hnr := norm_near l0 HQ0.out HI0.out j hlt
              clear hm2
              generalize l0.getD (j + 1) 0 = p1 at *
              generalize l0.getD j 0 = p2 at *
              obtain ⟨hn1, hn2⟩ := hnr
              generalize absI p1 = a1 at *
              generalize absI p2 = a2 at *
              have hd5 : decide (a1 < a2) = false := by simp; omega
              have hd6 : decide ((0 : Int) < (j : Int) + 1) = true := by rw [decide_eq_true_iff]; omega
              by_cases heq : a1 = a2
              · obtain ⟨hle, hsf⟩ := hn2 heq
                have hsb : sb = false := by rw [← HS0.out]; exact hsf
                subst hsb
                have hd7 : decide (p1 ≤ p2) = false := by simp; omega
                have hd8 : (a1 == a2) = true := by simp [heq]
                clear hn1 hn2 hle hsf
                have HEQ := Lib.hid heq; clear heq
                go_wp2_with fail
                go_quiet ((first | (go_at_call 10; refine (HH1.out _).mono ?_; rintro e w' ⟨rfl, rfl⟩; exact ⟨rfl, _, rfl⟩) | (go_at_call_of 11 (Value.int IntKind.i64 p1); refine (HV1.out _).mono ?_; rintro e w' ⟨rfl, rfl⟩; exact ⟨rfl, _, rfl⟩) | (go_at_call_of 11 (Value.int IntKind.i64 p2); refine (HV2.out _).mono ?_; rintro e w' ⟨rfl, rfl⟩; exact ⟨rfl, _, rfl⟩)))
                go_wp2
                go_roundw
                case rel => exact ⟨j + 2, _, by omega, by go_num, rfl⟩
                case measure => simp [intOf]; omega
              · have hd8 : (a1 == a2) = false := by simp [heq]
                clear hn1 hn2
                have HEQ := Lib.hid heq; clear heq
                go_wp2_with fail
                go_quiet ((first | (go_at_call 10; refine (HH1.out _).mono ?_; rintro e w' ⟨rfl, rfl⟩; exact ⟨rfl, _, rfl⟩) | (go_at_call_of 11 (Value.int IntKind.i64 p1); refine (HV1.out _).mono ?_; rintro e w' ⟨rfl, rfl⟩; exact ⟨rfl, _, rfl⟩) | (go_at_call_of 11 (Value.int IntKind.i64 p2); refine (HV2.out _).mono ?_; rintro e w' ⟨rfl, rfl⟩; exact ⟨rfl, _, rfl⟩)))
                go_wp2
                go_roundw
                case rel => exact ⟨j + 2, _, by omega, by go_num, rfl⟩
                case measure => simp [intOf]; omega
          · have hkn : k = l0.length := by omega
            have hbt : Below w.heap.size w (w6.drewN t) := hb6w.trans ((below_draws ⟨t, rfl⟩).mono hb6w.size)
            have hkeep : Below w6.heap.size w6 (w6.drewN t) := below_draws ⟨t, rfl⟩
            have S1 := Lib.hid (sameInts_yes _ _ l0 l0 _ (HRX.out.keep hkeep) (HRY.out.keep hkeep) rfl)
            have S2 := Lib.hid (fun W hW => sameInts_yes _ _ l0 l0 W ((HRX.out.keep hkeep).keep hW) ((HRZ.out.keep hkeep).keep hW) rfl)
            have S3 := Lib.hid (fun W (hW : Below (w6.drewN t).heap.size (w6.drewN t) W) => same_any _ _ cs l W (HRC.out.keep (hbt.trans (hW.mono hbt.size))) ((HRD.out.keep hkeep).keep hW) HIW.out (fun x hx => HIW.out x ((HMEM.out x).1 hx)) (by rw [HN.out]; omega) (by rw [HLL.out]; omega))
            rw [show decide (normL cs = normL l) = true by simp; exact norm_congr _ _ fun x => (HMEM.out x).symm] at S3
            have hss : (sb == sb) = true := by simp
            clear hlt
            go_wp2_with fail
            refine S1.out.mono ?_
            rintro e w7 ⟨rfl, hb7⟩
            go_wp2_with fail
            refine (S2.out _ hb7).mono ?_
            rintro e w8 ⟨rfl, hb8⟩
            have hb8' := hb7.trans (hb8.mono hb7.size)
            go_wp2_with fail
            refine (S3.out _ hb8').mono ?_
            rintro e w9 ⟨rfl, hb9⟩
            have hb9' := hb8'.trans (hb9.mono hb8'.size)
            go_wp2_with fail
            go_ret
            exact ⟨rfl, hbt.trans (hb9'.mono hbt.size)⟩
end Go.Proofs.Ytcndkdlpicffpaa
