/- Contracts of slices.Clone at any slice of ints, and of prefix.copies: the same clauses in memory of the call's own. Conditions: they read as these, not too many. -/
import Derived.Test.YtcodmijphejfdaaDoorMerge
namespace Go.Proofs.YtcodmijphejfdaaDoor
open Go.RowKit

theorem clone_any (v : Value) (xs : List Int) (w : World) (hv : Row w v xs) (hn : xs.length ≤ 1000000000) :
    Calls Tryd.prog 40 #[v] w fun e w' => ∃ u, e = .returned u ∧ w'.ownsRow w.heap.size 3 1 u xs.length (xs.map (Value.int .i64)) ∧ Below w.heap.size w w' := by
  by_cases h0 : xs.length = 0
  · obtain ⟨a, c, rfl, _⟩ := hv
    have hx : xs = [] := List.eq_nil_of_length_eq_zero h0
    subst hx
    cases a with
    | none =>
      refine (Tryd.slices_Clone_int_nil 0 c w).mono ?_
      rintro e w' ⟨rfl, rfl⟩
      exact ⟨_, rfl, ⟨rfl, .inl ⟨rfl, rfl⟩⟩, Below.refl _ _⟩
    | some ad =>
      refine (Tryd.slices_Clone_int_zero ad c w).mono ?_
      rintro e w' ⟨u, rfl, ho, _, hb⟩
      exact ⟨u, rfl, ho, hb⟩
  · exact clone_full v xs w hv hn h0

/-- The clause at hand made since. -/
theorem ClG.cur {w w' : World} {B : Nat} {o c u : Value} {vs : List Value} {done : List (List Int)} {cur ys : List Int} (h : ClG w B o c vs done cur) (hB : B ≤ w.heap.size) (hb : Below w.heap.size w w')
    (hu : w'.ownsRow w.heap.size 3 1 u ys.length (ys.map (Value.int .i64))) : ClG w' B o u vs done ys := by
  refine ⟨h.len, own_keep h.out hb, fun j hj => ?_, own_base hu hB, fun g e e' => ?_⟩
  · obtain ⟨v, h1, h2, h3⟩ := h.each j hj
    refine ⟨v, h1, own_keep h2 hb, fun g e => ⟨Nat.lt_of_lt_of_le (h3 g e).1 hb.size, (h3 g e).2.1, fun e' => ?_⟩⟩
    have := (hu.lt g e').1
    have := (h3 g e).1
    omega
  · have := (hu.lt g e').1
    have := own_ltG h.out e
    omega

set_option maxHeartbeats 1000000 in
theorem copies_any (a : Option Addr) (c : Nat) (xss : List (List Int)) (w : World) (hr : RowsAt w a c xss) (hn : xss.length ≤ 1000000000) (hn2 : ∀ xs ∈ xss, xs.length ≤ 1000000000) :
    Calls Tryd.prog 27 #[.slice a xss.length c] w fun e w' => (∃ v, e = .returned v ∧ CRow w' w.heap.size v xss) ∧ Below w.heap.size w w' := by
  obtain ⟨hr1, hr2, hr3⟩ := hr
  unfold maxLen at hr2
  have HR3 := Lib.hid hr3; clear hr3
  have HL : Hid (∀ k, k < xss.length → (xss.getD k []).length ≤ 1000000000) := fun k hk => hn2 _ (by simp [List.getD, hk])
  have HT : Hid (∀ k, k < xss.length → xss.take (k + 1) = xss.take k ++ [xss.getD k []]) := fun k hk => by
    rw [List.take_succ_eq_append_getElem hk]; simp [List.getD, hk]
  have HE : Hid (xss.take xss.length = xss) := List.take_length
  have HLT : Hid (∀ k, k ≤ xss.length → (xss.take k).length = k) := fun k hk => by rw [List.length_take]; omega
  clear hn2
  generalize hM : xss.length = m at *
  have HM := Lib.hid hM; clear hM
  go_enter Tryd.func27, Tryd.ntmps27
  go_wp2_with fail
  go_loopw [3, 5, 8] (fun o _ i wr => ∃ (k : Nat) (vs : List Value), k ≤ m ∧ i = .int .i64 k ∧ ClG wr w.heap.size o (.slice none 0 0) vs (xss.take k) [] ∧ Below w.heap.size w wr) (fun _ _ i _ => m - (intOf i).toNat)
  case atStart => exact ⟨0, [], Nat.zero_le _, rfl, ClG.start _ _, Below.refl _ _⟩
  case round =>
    obtain ⟨k, vs, hk, rfl, hcl, hbr⟩ := hrel
    by_cases hlt : k < m
    · obtain ⟨b, off, ha, hbl, hc⟩ := HR3.out.resolve_left (by omega)
      subst ha
      obtain ⟨v, f1, hvr⟩ := hc k hlt
      clear hc
      have f1' := (hbr.cell (p := ⟨b, off + k, none⟩) hbl).trans f1
      have hl := HL.out k hlt
      have HTK := Lib.hid (HT.out k hlt)
      have hdl := HLT.out k hk
      generalize hys : xss.getD k [] = ys at *
      clear f1 hys
      have HCL := Lib.hid (clone_any v ys wr (hvr.keep hbr) hl)
      obtain ⟨ao, co, ho⟩ := own_shape3 hcl.out
      rw [hdl] at ho
      subst ho
      have HOUT := Lib.hid (fun W (hW : Below wr.heap.size wr W) => own_keep hcl.out hW)
      rw [hdl] at HOUT
      have HCG := Lib.hid (fun W u (hW : Below wr.heap.size wr W) hu => (hcl.cur hbr.size hW hu : ClG W w.heap.size _ u vs (xss.take k) ys))
      have HBS := Lib.hid hbr.size
      have HBR := Lib.hid hbr
      obtain ⟨av, cv, rfl, _⟩ := hvr
      clear hcl hbr
      have HDL := Lib.hid hdl; clear hdl
      generalize ys.length = ny at *
      go_wp2_with (first
        | (go_at_call 40; refine HCL.out.mono ?_; rintro e w1 ⟨u, rfl, hu, hb1⟩; have hcg := HCG.out w1 u hb1 hu; have hs1 := hb1.size; have hou := HOUT.out w1 hb1; obtain ⟨au, cu, rfl⟩ := own_shape3 hu)
        | (at_builtin; refine wpList_appV 23 30 (.slice none 0 0) 24 Tryd.underlying23 infoInts rfl (by decide) rfl _ _ rfl w1 w.heap.size _ _ vs (.slice au ny cu) rfl hou (by have := HBS.out; omega) (by omega) _ rfl rfl rfl ?_; intro o' w2 hown2 hap2))
      go_roundw
      case rel =>
        refine ⟨k + 1, vs ++ [.slice au ny cu], by omega, by go_num, ?_, HBR.out.trans ((hb1.mono HBS.out).trans hap2.below)⟩
        rw [HTK.out]
        exact hcg.push hap2 (by rw [HDL.out]; exact hown2)
      case measure => simp [intOf]; omega
    · have hkm : k = m := by omega
      subst hkm
      have HCR := Lib.hid (show CRow wr w.heap.size _ (xss.take k) from ⟨_, _, _, hcl⟩)
      rw [HE.out] at HCR
      obtain ⟨ao, no, co, rfl⟩ := slice_of hcl.out
      clear hcl
      go_wp2_with fail
      go_ret
      exact ⟨⟨_, rfl, HCR.out⟩, hbr⟩
end Go.Proofs.YtcodmijphejfdaaDoor
