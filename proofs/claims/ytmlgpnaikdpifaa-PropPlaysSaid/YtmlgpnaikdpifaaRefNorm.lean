/- The contract of the document's own skolemref1.Norm: a sorted list with the same members, each literal once, and whether none stands there with its opposite. Conditions: the literals are 64-bit ints above the least, the list is short. -/
import Derived.Test.YtmlgpnaikdpifaaRefNormP
import Derived.Test.YtmlgpnaikdpifaaRef
import Derived.Test.YtmlgpnaikdpifaaIntsR
import Derived.Deep.RegionLaw
import Derived.Deep.DeepCutAuto
import Derived.Deep.CutBlock
import Derived.Deep.LoopGhost
namespace Go.Proofs.Ytmlgpnaikdpifaa
open Go.RowKit

theorem addr_add (g o j : Nat) : (⟨g, o, none⟩ : Addr).add j = ⟨g, o + j, none⟩ := by
  by_cases e : j = 0
  · subst e; rfl
  · simp [Addr.add, e]
theorem cells_drop {w : World} {B : Nat} {e : TypeId} {g n cap : Nat} {l : List Int} (h : w.ownsRow B e 1 (.slice (some ⟨g, 0, none⟩) n cap) n (l.map (Value.int .i64))) (k : Nat) :
    ∀ j, j < n - k → w.cell? ((⟨g, k, none⟩ : Addr).add j) = some (.int .i64 ((l.drop k).getD j 0)) := fun j hj => by
  have hl := own_len h
  have hkj : k + j < l.length := by omega
  rw [addr_add, h.cellAt _ (by omega)]
  simp [List.getD, hkj]
theorem ins_mem (l : List Int) (k : Nat) (x y : Int) : y ∈ l.take k ++ [x] ++ l.drop k ↔ y ∈ l ∨ y = x := by
  have h : y ∈ l ↔ y ∈ l.take k ∨ y ∈ l.drop k := by
    conv => lhs; rw [← List.take_append_drop k l, List.mem_append]
  rw [h, List.mem_append, List.mem_append, List.mem_singleton]
  constructor
  · rintro ((a | a) | a)
    · exact .inl (.inl a)
    · exact .inr a
    · exact .inl (.inr a)
  · rintro ((a | a) | a)
    · exact .inl (.inl a)
    · exact .inr a
    · exact .inl (.inr a)
theorem take_mem (cs : List Int) (k : Nat) (h : k < cs.length) (x : Int) : x ∈ cs.take (k + 1) ↔ x ∈ cs.take k ∨ x = cs.getD k 0 := by
  rw [take_snoc cs k h]; simp

/-- What the outer loop keeps: a sorted row of the call's own with the same members as the first k of cs. -/
structure InsN (w0 : World) (cs : List Int) (k : Nat) (d : Value) (s : Bool) (l : List Int) (w : World) : Prop where
  below : Below w0.heap.size w0 w
  nil : l = [] → d = .slice none 0 0
  own : w.ownsRow w0.heap.size 3 1 d l.length (l.map (Value.int .i64))
  pair : l.Pairwise ltQ
  mem : ∀ x, x ∈ l ↔ x ∈ cs.take k
  says : s = saysL l
  len : l.length ≤ k

theorem InsN.draws {w0 w W : World} {cs : List Int} {k : Nat} {d : Value} {s : Bool} {l : List Int} (h : InsN w0 cs k d s l w) (hW : ∃ n, W = w.drewN n) : InsN w0 cs k d s l W :=
  ⟨h.below.trans ((below_draws hW).mono h.below.size), h.nil, own_keep h.own (below_draws hW), h.pair, h.mem, h.says, h.len⟩

theorem insN_step {w0 wt w9 : World} {xs l : List Int} {k q n9 : Nat} {d v9 : Value} {sb s' : Bool} {x : Int} (h : InsN w0 xs k d sb l wt) (hk : k < xs.length) (hx : xs.getD k 0 = x) (hnm : x ∉ l)
    (hq : ∀ j, j < q → ltQ (l.getD j 0) x) (hq2 : q < l.length → ltQ x (l.getD q 0)) (hn : n9 = l.length + 1) (hown : w9.ownsRow wt.heap.size 3 1 v9 n9 ((l.take q ++ [x] ++ l.drop q).map (Value.int .i64)))
    (hb : Below wt.heap.size wt w9) (hs : s' = (sb && !decide (-x ∈ l))) : Hid (InsN w0 xs (k + 1) v9 s' (l.take q ++ [x] ++ l.drop q) w9) := by
  subst hn
  have hsz := h.below.size
  have hl9 : (l.take q ++ [x] ++ l.drop q).length = l.length + 1 := own_len hown
  refine ⟨h.below.trans (hb.mono hsz), fun e => by rw [e] at hl9; simp at hl9, by rw [hl9]; exact own_base hown hsz, ins_pair l x q h.pair (fun j hj _ => hq j hj) hq2, fun y => ?_, ?_, by have := h.len; omega⟩
  · rw [ins_mem, take_mem xs k hk, hx, h.mem]
  · rw [hs, h.says, saysL_step l _ x hnm (ins_mem l q x)]

/-- What the document's Norm answers. -/
def NsPost (w : World) (xs : List Int) (e : Ending) (w' : World) : Prop :=
  ∃ v' l, e = .returned (.tuple #[v', .bool (saysL xs)]) ∧ Nsd xs l ∧ Below w.heap.size w w' ∧ w'.ownsRow w.heap.size 3 1 v' l.length (l.map (Value.int .i64))

set_option maxHeartbeats 8000000 in
set_option maxRecDepth 100000 in
theorem refNorm_any (v : Value) (xs : List Int) (w : World) (hv : Row w v xs) (hxs : InW xs) (hn : xs.length < 1000000000) :
    Calls Try.prog 13 #[v] w (NsPost w xs) := by
  obtain ⟨a, c, rfl, hxc, hcm, hx⟩ := hv
  unfold maxLen at hcm
  have HX := Lib.hid hx; clear hx
  generalize hN : xs.length = n at *
  have HN := Lib.hid hN; clear hN
  go_enter Try.func13, Try.ntmps13
  go_wp2_with fail
  go_loopg [4, 5, 6, 7, 8] n (fun gh d s i _ _ wr => ∃ (k : Nat) (sb : Bool) (l : List Int), k ≤ n ∧ gh = n - k ∧ i = .int .i64 k ∧ s = .bool sb ∧ Hid (InsN w xs k d sb l wr))
  case atStart => exact ⟨0, true, [], Nat.zero_le _, rfl, rfl, rfl, ⟨Below.refl _ _, fun _ => rfl, World.ownsRow_nil _ _ _ _, List.Pairwise.nil, by simp, by decide, Nat.le_refl _⟩⟩
  case round =>
    obtain ⟨k, sb, l, hk, rfl, rfl, rfl, HI⟩ := hrel
    by_cases hlt : k < n
    · obtain ⟨b, off, ha, hb, hc⟩ := HX.out.resolve_left (by omega)
      subst ha
      have gk := hc k hlt
      clear hc
      have g1 : wr.cell? ⟨b, off + k, none⟩ = some (.int .i64 (xs.getD k 0)) := (HI.out.below.cell (p := ⟨b, off + k, none⟩) hb).trans gk
      have hbr : b < wr.heap.size := Nat.lt_of_lt_of_le hb HI.out.below.size
      have hbd := hxs.get k
      have HTM := Lib.hid (take_mem xs k (by rw [HN.out]; exact hlt))
      generalize hx : xs.getD k 0 = x at *
      have HXX := Lib.hid hx; clear hx
      obtain ⟨hx1, hx2⟩ := hbd
      have hown := HI.out.own
      obtain ⟨ad, cd, rfl, hcd1, hcd2⟩ := own_shape hown
      unfold maxLen at hcd2
      have hlk := HI.out.len
      have HRD := Lib.hid (show Row wr (.slice ad l.length cd) l from own_row hown)
      generalize hL : l.length = L at *
      have HL := Lib.hid hL; clear hL
      by_cases hmem : x ∈ l
      · have HH := Lib.hid (has_any _ l x wr HRD.out)
        rw [show decide (x ∈ l) = true by simp [hmem]] at HH
        have HM := Lib.hid hmem; clear hmem
        go_wp2_with (go_at_call 32; refine HH.out.mono ?_; rintro e w' ⟨rfl, rfl⟩)
        go_roundg (n - (k + 1))
        case measure => omega
        case rel => exact ⟨k + 1, sb, l, by omega, rfl, by go_num, rfl, ⟨HI.out.below, HI.out.nil, HI.out.own, HI.out.pair, fun y => by rw [HTM.out, HI.out.mem]; constructor; exact .inl; rintro (h | rfl); exact h; exact (HI.out.mem _).1 HM.out, HI.out.says, Nat.le_succ_of_le HI.out.len⟩⟩
      · have HH := Lib.hid (has_any _ l x wr HRD.out)
        rw [show decide (x ∈ l) = false by simp [hmem]] at HH
        have HNM := Lib.hid hmem; clear hmem
        have HLI := Lib.hid (show InW l from fun y hy => hxs y (List.mem_of_mem_take ((HI.out.mem y).1 hy)))
        go_upto_block 2 with (go_at_call 32; refine HH.out.mono ?_; rintro e w' ⟨rfl, rfl⟩)
        go_cut [7] (fun i w2 => ∃ q t : Nat, q ≤ L ∧ i = .int .i64 q ∧ w2 = wr.drewN t ∧ Hid ((∀ j, j < q → ltQ (l.getD j 0) x) ∧ (q < l.length → ltQ x (l.getD q 0))))
        case first =>
          go_wp2_with fail
          go_loopg [7] L (fun gh i w2 => ∃ q t : Nat, q ≤ L ∧ gh = L - q ∧ i = .int .i64 q ∧ w2 = wr.drewN t ∧ Hid (∀ j, j < q → ltQ (l.getD j 0) x))
          case atStart => exact ⟨0, 0, Nat.zero_le _, rfl, rfl, rfl, fun j hj => absurd hj (Nat.not_lt_zero _)⟩
          case round =>
            obtain ⟨q, t, hq, rfl, rfl, rfl, HQ⟩ := hrel
            by_cases hql : q < L
            · obtain ⟨g, cap, e', hg1, hg2, hc1, hc2⟩ := own_some hown (by omega)
              injection e' with e1 _ e3
              subst e1; subst e3
              have hql' : q < l.length := by rw [HL.out]; exact hql
              have g3 : wr.cell? ⟨g, q, none⟩ = some (.int .i64 (l.getD q 0)) := by rw [hown.cellAt q (by omega)]; simp [List.getD, hql']
              have hyd := HLI.out.get q
              have HGD := Lib.hid (show l.getD q 0 ∈ l by simp [List.getD, hql'])
              clear hql'
              generalize hy : l.getD q 0 = y at *
              have HYY := Lib.hid hy; clear hy
              obtain ⟨hy1, hy2⟩ := hyd
              have HBF := Lib.hid (fun W => before_any y x W hy1 hy2 hx1 hx2)
              have HDQ := Lib.hid (show decide (absI y < absI x ∨ (absI y = absI x ∧ y < x)) = decide (ltQ y x) from rfl)
              rw [HDQ.out] at HBF
              clear HDQ
              by_cases hlq : ltQ y x
              · rw [decide_eq_true hlq] at HBF
                have HLQ := Lib.hid hlq; clear hlq
                go_wp2_with fail
                go_quiet ((go_at_call 44; refine (HBF.out _).mono ?_; rintro e w' ⟨rfl, rfl⟩; exact ⟨rfl, _, rfl⟩))
                go_wp2
                go_roundg (L - (q + 1))
                case measure => omega
                case rel =>
                  refine ⟨q + 1, _, by omega, rfl, by go_num, by first | rfl | exact World.drewN_drewN _ _ _, fun i hi => ?_⟩
                  by_cases e : i = q
                  · rw [e, HYY.out]; exact HLQ.out
                  · exact HQ.out i (by omega)
              · rw [decide_eq_false hlq] at HBF
                have HGT := Lib.hid (show q < l.length → ltQ x (l.getD q 0) from fun _ => by rw [HYY.out]; exact ltQ_tot hlq (fun e => HNM.out (by rw [← e]; exact HGD.out)))
                clear hlq
                go_wp2_with fail
                go_quiet ((go_at_call 44; refine (HBF.out _).mono ?_; rintro e w' ⟨rfl, rfl⟩; exact ⟨rfl, _, rfl⟩))
                go_wp2
                go_meet
                exact ⟨q, _, hq, rfl, by first | rfl | exact World.drewN_drewN _ _ _, HQ.out, HGT.out⟩
            · have HGT := Lib.hid (show q < l.length → ltQ x (l.getD q 0) from fun h => by rw [HL.out] at h; exact absurd h hql)
              go_wp2_with fail
              go_quiet (fail)
              go_wp2
              go_meet
              exact ⟨q, _, hq, rfl, by first | rfl | exact World.drewN_drewN _ _ _, HQ.out, HGT.out⟩
        case rest =>
          obtain ⟨q, t, hq, rfl, hw, HQ⟩ := hcut
          obtain ⟨wt, rfl⟩ : ∃ wt : World, wt = wc := ⟨_, rfl⟩
          have HIT : Hid (InsN w xs k (.slice ad L cd) sb l wt) := HI.out.draws ⟨t, hw⟩
          have hbw := below_draws ⟨t, hw⟩
          have gT : wt.cell? ⟨b, off + k, none⟩ = some (.int .i64 x) := (hbw.cell (p := ⟨b, off + k, none⟩) hbr).trans g1
          have hbT : b < wt.heap.size := Nat.lt_of_lt_of_le hbr hbw.size
          have HHT := Lib.hid (has_any _ l (-x) wt (HRD.out.keep hbw))
          clear g1 hbr HI HH hown HRD hbw hw
          go_upto_region 10 with fail
          go_cut [5] (fun s w2 => s = .bool (sb && !decide (-x ∈ l)) ∧ w2 = wt)
          case first =>
            cases sb with
            | false =>
              go_wp2_with fail
              go_meet
              exact ⟨rfl, rfl⟩
            | true =>
              go_wp2_with (go_at_call 32; refine HHT.out.mono ?_; rintro e w' ⟨rfl, rfl⟩)
              go_meet
              exact ⟨rfl, rfl⟩
          case rest =>
            obtain ⟨rfl, hw2⟩ := hcut
            subst hw2
            obtain ⟨wt, rfl⟩ : ∃ w3 : World, w3 = wc := ⟨_, rfl⟩
            have hownT := HIT.out.own
            rw [HL.out] at hownT
            clear HHT
            generalize hsb : (sb && !decide (-x ∈ l)) = s2 at *
            have HSB := Lib.hid hsb.symm; clear hsb
            go_upto_region 11 with fail
            go_cut [8] (fun d8 w8 => w8.ownsRow wt.heap.size 3 1 d8 (q + 1) ((l.take q ++ [x]).map (Value.int .i64)) ∧ Below wt.heap.size wt w8)
            case first =>
              rcases Nat.eq_zero_or_pos L with h0 | h0
              · have hl0 : l = [] := List.eq_nil_of_length_eq_zero (by rw [HL.out]; exact h0)
                have hd := HIT.out.nil hl0
                injection hd with e1 _ e3
                obtain rfl : q = 0 := by omega
                subst e1; subst e3; subst h0; subst hl0
                have HINT0 := Lib.hid (fun W => ints_any (.slice none 0 0) [] W (Row.nil W) (by simp))
                go_region_law (first
                  | (go_simp; go_at_call 21; refine (HINT0.out _).mono ?_; rintro e wI ⟨vI, rfl, hoI, hbI⟩; have hbI' : Below wt.heap.size wt wI := below_call (by first | exact Below.refl _ _ | exact (Below.refl _ _).drew) (by simp) hbI; have hszI : wt.heap.size ≤ wI.heap.size := hbI'.size; have gI : wI.cell? ⟨b, off + k, none⟩ = some (.int .i64 x) := (hbI'.cell (p := ⟨b, off + k, none⟩) hbT).trans gT)
                  | (go_simp; go_at_call 21; refine (HINT0.out _).mono ?_; rintro e wI ⟨vI, rfl, hoI, hbI⟩; have hbI' : Below wt.heap.size wt wI := below_call (by first | exact (Below.refl _ _).alloc (Nat.le_refl _) _ | exact ((Below.refl _ _).alloc (Nat.le_refl _) _).drew) (by simp) hbI; have hszI : wt.heap.size + 1 ≤ wI.heap.size := (by have := hbI.size; simp at this; omega); have gX : wI.cell? ⟨wt.heap.size, 0, none⟩ = some (.int .i64 x) := (hbI.cell (p := ⟨wt.heap.size, 0, none⟩) (by simp)).trans (by show (wt.alloc (.cells #[.int .i64 x] 3)).cell? _ = _; rw [World.cell?_alloc_at _ _ _ _ rfl]; rfl))
                  | (refine step_app rfl _ _ rfl _ wt.heap.size vI _ ([] : List Int) ⟨wI.heap.size, 0, none⟩ 1 1 [x] (by exact (own_base hoI (by simp)).alloc _) (by simp; omega) (by first | omega | (simp; done) | (simp; omega)) rfl (by intro j hj; match j, hj with | 0, _ => simp [Addr.add]) rfl rfl ?_; intro v8 w8 hown8 hb8'; have hb8 : Below wt.heap.size wt w8 := (hbI'.alloc hszI _).trans hb8')
                  | (refine step_app rfl _ _ rfl _ wt.heap.size vI _ ([] : List Int) ⟨wt.heap.size, 0, none⟩ 1 1 [x] (by exact own_base hoI (by simp)) (by omega) (by first | omega | (simp; done) | (simp; omega)) rfl (by intro j hj; match j, hj with | 0, _ => simpa [Addr.add] using gX) rfl rfl ?_; intro v8 w8 hown8 hb8'; have hb8 : Below wt.heap.size wt w8 := hbI'.trans hb8'))
                all_goals
                  go_wp2_with fail
                  go_meet
                  exact ⟨by simpa using hown8, hb8⟩
              · obtain ⟨g, cap, e', hg1, hg2, hc1, hc2⟩ := own_some hownT (by omega)
                injection e' with e1 _ e3
                subst e1; subst e3
                have HINT := Lib.hid (show ∀ (j : Nat), j ≤ L → ∀ W, Below wt.heap.size wt W → Calls Try.prog 21 #[.slice (some ⟨g, 0, none⟩) j cd] W fun e w' => ∃ v', e = .returned v' ∧ w'.ownsRow W.heap.size 3 1 v' j ((l.take j).map (Value.int .i64)) ∧ Below W.heap.size W w' from fun j hj W hW => by
                  have h := ints_any _ (l.take j) W ((own_cut hownT j hj).keep hW) (by simp; omega)
                  rwa [show (l.take j).length = j by simp; rw [HL.out]; omega] at h)
                have hi1 : (0 : Int) ≤ (q : Int) := by omega
                have hi2 : (q : Int) ≤ (cd : Int) := by omega
                have hi3 : (q : Int) ≤ (L : Int) := by omega
                go_region_law (first
                  | (go_simp; go_at_call 21; refine (HINT.out q (by omega) _ (by first | exact Below.refl _ _ | exact (Below.refl _ _).drew | exact (Below.refl _ _).alloc (Nat.le_refl _) _ | exact ((Below.refl _ _).alloc (Nat.le_refl _) _).drew)).mono ?_; rintro e wI ⟨vI, rfl, hoI, hbI⟩; have hbI' : Below wt.heap.size wt wI := below_call (by first | exact Below.refl _ _ | exact (Below.refl _ _).drew) (by simp) hbI; have hszI : wt.heap.size ≤ wI.heap.size := hbI'.size; have gI : wI.cell? ⟨b, off + k, none⟩ = some (.int .i64 x) := (hbI'.cell (p := ⟨b, off + k, none⟩) hbT).trans gT)
                  | (go_simp; go_at_call 21; refine (HINT.out q (by omega) _ (by first | exact Below.refl _ _ | exact (Below.refl _ _).drew | exact (Below.refl _ _).alloc (Nat.le_refl _) _ | exact ((Below.refl _ _).alloc (Nat.le_refl _) _).drew)).mono ?_; rintro e wI ⟨vI, rfl, hoI, hbI⟩; have hbI' : Below wt.heap.size wt wI := below_call (by first | exact (Below.refl _ _).alloc (Nat.le_refl _) _ | exact ((Below.refl _ _).alloc (Nat.le_refl _) _).drew) (by simp) hbI; have hszI : wt.heap.size + 1 ≤ wI.heap.size := (by have := hbI.size; simp at this; omega); have gX : wI.cell? ⟨wt.heap.size, 0, none⟩ = some (.int .i64 x) := (hbI.cell (p := ⟨wt.heap.size, 0, none⟩) (by simp)).trans (by show (wt.alloc (.cells #[.int .i64 x] 3)).cell? _ = _; rw [World.cell?_alloc_at _ _ _ _ rfl]; rfl))
                  | (refine step_app rfl _ _ rfl _ wt.heap.size vI _ (l.take q) ⟨wI.heap.size, 0, none⟩ 1 1 [x] (by exact (own_base hoI (by simp)).alloc _) (by simp; omega) (by first | omega | (simp; done) | (simp; omega)) rfl (by intro j hj; match j, hj with | 0, _ => simp [Addr.add]) rfl rfl ?_; intro v8 w8 hown8 hb8'; have hb8 : Below wt.heap.size wt w8 := (hbI'.alloc hszI _).trans hb8')
                  | (refine step_app rfl _ _ rfl _ wt.heap.size vI _ (l.take q) ⟨wt.heap.size, 0, none⟩ 1 1 [x] (by exact own_base hoI (by simp)) (by omega) (by first | omega | (simp; done) | (simp; omega)) rfl (by intro j hj; match j, hj with | 0, _ => simpa [Addr.add] using gX) rfl rfl ?_; intro v8 w8 hown8 hb8'; have hb8 : Below wt.heap.size wt w8 := hbI'.trans hb8'))
                all_goals
                  go_wp2_with fail
                  go_meet
                  exact ⟨hown8, hb8⟩
            case rest =>
              obtain ⟨hown8, hb8⟩ := hcut
              obtain ⟨w8, rfl⟩ : ∃ w8 : World, w8 = wc := ⟨_, rfl⟩
              obtain ⟨g8, c8, rfl, _, hc81, hc82, _⟩ := own_some hown8 (by omega)
              have hsz8 := hb8.size
              rcases Nat.eq_zero_or_pos L with h0 | h0
              · have hl0 : l = [] := List.eq_nil_of_length_eq_zero (by rw [HL.out]; exact h0)
                have hd := HIT.out.nil hl0
                injection hd with e1 _ e3
                obtain rfl : q = 0 := by omega
                subst e1; subst e3; subst h0; subst hl0
                go_wp2_with (at_builtin; refine wpList_app rfl _ _ rfl w8 wt.heap.size _ _ _ none 0 0 [] hown8 hsz8 (by simp) rfl (.inl rfl) (fun _ => rfl) rfl rfl ?_; intro v9 w9 hown9 hb9)
                go_roundg (n - (k + 1))
                case measure => omega
                case rel => exact ⟨k + 1, _, _, by omega, rfl, by go_num, rfl, insN_step (q := 0) HIT.out (by rw [HN.out]; exact hlt) HXX.out (by simp) (fun j hj => absurd hj (Nat.not_lt_zero _)) (fun h => by simp at h) rfl (by simpa using hown9) (hb8.trans hb9) HSB.out⟩
              · obtain ⟨g, cap, e', hg1, hg2, hc1, hc2⟩ := own_some hownT (by omega)
                injection e' with e1 _ e3
                subst e1; subst e3
                have hdk := own_keep hownT hb8
                have HDC := Lib.hid (cells_drop hdk q)
                by_cases hcap : cd = q
                · obtain rfl : L = q := by omega
                  subst hcap
                  go_wp2_with (at_builtin; refine wpList_app rfl _ _ rfl w8 wt.heap.size _ _ _ _ 0 _ [] hown8 hsz8 (by first | omega | (simp; done) | (simp; omega)) rfl (.inl rfl) (by intro h; cases h) rfl rfl ?_; intro v9 w9 hown9 hb9)
                  go_roundg (n - (k + 1))
                  case measure => omega
                  case rel => exact ⟨k + 1, _, _, by omega, rfl, by go_num, rfl, insN_step (q := cd) HIT.out (by rw [HN.out]; exact hlt) HXX.out HNM.out HQ.out.1 HQ.out.2 (by rw [HL.out]) (by rw [List.append_nil] at hown9; rw [List.drop_of_length_le (by rw [HL.out]; exact Nat.le_refl _), List.append_nil]; exact hown9) (hb8.trans hb9) HSB.out⟩
                · have hi1 : (0 : Int) ≤ (q : Int) := by omega
                  have hi2 : (q : Int) ≤ (cd : Int) := by omega
                  have hi3 : (q : Int) ≤ (L : Int) := by omega
                  go_wp2_with (at_builtin; refine wpList_app rfl _ _ rfl w8 wt.heap.size _ _ _ _ (L - q) _ (l.drop q) hown8 hsz8 (by first | omega | (simp; done) | (simp; omega)) (by simp [HL.out]) (by first | exact .inr ⟨_, rfl, HDC.out⟩ | (split <;> first | (left; omega) | exact .inr ⟨_, rfl, HDC.out⟩)) (by intro h; first | cases h | (split at h <;> cases h)) rfl rfl ?_; intro v9 w9 hown9 hb9)
                  go_roundg (n - (k + 1))
                  case measure => omega
                  case rel => exact ⟨k + 1, _, _, by omega, rfl, by go_num, rfl, insN_step (q := q) HIT.out (by rw [HN.out]; exact hlt) HXX.out HNM.out HQ.out.1 HQ.out.2 (by rw [HL.out]; omega) hown9 (hb8.trans hb9) HSB.out⟩
    · have hkn : k = n := by omega
      subst hkn
      have hall := HI.out.mem
      rw [List.take_of_length_le (by rw [HN.out]; exact Nat.le_refl _)] at hall
      have HNL : Hid (Nsd xs l) := ⟨HI.out.pair, hall⟩
      clear hall
      go_wp2_with fail
      go_ret2
      exact ⟨_, l, by rw [← HNL.out.says, ← HI.out.says]; rfl, HNL.out, HI.out.below, HI.out.own⟩
end Go.Proofs.Ytmlgpnaikdpifaa
