/- The contract of slow.rest: the masks of the clauses that are not true yet; what a number makes of them is what the clauses are worth. Conditions: the clauses read as right literals of the known variables and of few more. -/
import Derived.Test.YtcodmijphejfdaaDoorAft
import Derived.Test.YtcodmijphejfdaaDoorSrtM
import Derived.Test.YtcodmijphejfdaaDoorCmpW
import Derived.Test.YtcodmijphejfdaaDoorBrow
namespace Go.Proofs.YtcodmijphejfdaaDoor
open Go.RowKit

theorem infoCl : (Tryd.prog.info? 104).map (fun i => (i.zero, i.size, i.bytes)) = some (some (.agg #[.int .i64 0, .int .i64 0]), 2, 16) := by kernel_rfl
theorem infoBo : (Tryd.prog.info? 4).map (fun i => (i.zero, i.size, i.bytes)) = some (some (.bool false), 1, 1) := by kernel_rfl
def flatM (ds : List Mk) : List Value := ds.flatMap encM
theorem flatM_len (ds : List Mk) : (flatM ds).length = ds.length * 2 := by
  induction ds with
  | nil => rfl
  | cons d ds ih => unfold flatM at *; rw [List.flatMap_cons, List.length_append, ih]; simp [encM]; omega
theorem flatM_get (ds : List Mk) (j : Nat) (h : j < ds.length) : (flatM ds)[j * 2]? = some (.int .i64 ((ds.getD j (0, 0)).1 : Int)) ∧ (flatM ds)[j * 2 + 1]? = some (.int .i64 ((ds.getD j (0, 0)).2 : Int)) := by
  induction ds generalizing j with
  | nil => simp at h
  | cons d ds ih =>
    have hc : flatM (d :: ds) = .int .i64 (d.1 : Int) :: .int .i64 (d.2 : Int) :: flatM ds := rfl
    rw [hc]
    cases j with
    | zero => exact ⟨rfl, rfl⟩
    | succ j =>
      have := ih j (by simpa using h)
      rw [show (j + 1) * 2 = j * 2 + 2 by omega, show j * 2 + 2 + 1 = (j * 2 + 1) + 2 by omega]
      simpa [List.getD] using this
/-- An owned row of masks lies as such. -/
theorem own_mcel {w : World} {B g c : Nat} {ds : List Mk} (h : w.ownsRow B 104 2 (.slice (some ⟨g, 0, none⟩) ds.length c) ds.length (flatM ds)) : MCel w g 0 ds ∧ B ≤ g ∧ g < w.heap.size ∧ ds.length ≤ c ∧ c ≤ maxLen := by
  have hlt := h.lt g rfl
  have hcell : ∀ j u, (flatM ds)[j]? = some u → w.cell? ⟨g, j, none⟩ = some u := fun j u hj => by
    have := h.cells (g := g) rfl j u hj
    rwa [show (⟨g, 0, none⟩ : Addr).add j = ⟨g, j, none⟩ by unfold Addr.add; split <;> simp_all] at this
  have hfr : (∀ j, w.frozen? ⟨g, j, none⟩ = false) ∧ ds.length ≤ c ∧ c ≤ maxLen := by
    rcases h.2 with ⟨e0, _⟩ | ⟨g', cap, cur, e0, _, hg, h1, h2, _⟩
    · cases e0
    · injection e0 with e0 _ e1
      injection e0 with e0
      injection e0 with e0
      subst e0; subst e1
      exact ⟨fun j => by simp [World.frozen?, hg], h1, h2⟩
  refine ⟨fun j hj => ?_, hlt.1, hlt.2, hfr.2⟩
  obtain ⟨h1, h2⟩ := flatM_get ds j hj
  refine ⟨?_, ?_, hfr.1 _, hfr.1 _⟩
  · rw [Nat.zero_add]; exact hcell _ _ h1
  · rw [Nat.zero_add]; exact hcell _ _ h2
theorem restL_take (kn : List Bool) (m : List (List Int)) (k : Nat) (h : k < m.length) : restL kn (m.take (k + 1)) = restL kn (m.take k) ++ (if keepM kn (m.getD k []) then [afterM kn.length (m.getD k [])] else []) := by
  unfold restL
  rw [List.take_succ_eq_append_getElem h, List.filter_append, List.map_append]
  have e : m.getD k [] = m[k] := by simp [List.getD, h]
  rw [e]
  congr 1
  rw [List.filter_cons, List.filter_nil]
  split <;> simp_all

/-- The row lies in a block that is newer than B, or is empty. -/
def NewM (B : Nat) (v : Value) (ds : List Mk) : Prop := ds.length = 0 ∨ ∃ b c, v = .slice (some ⟨b, 0, none⟩) ds.length c ∧ B ≤ b
theorem RowM.set {w : World} {v : Value} {ds : List Mk} {B : Nat} (h : RowM w v ds) (hn : NewM B v ds) (q j : Nat) (u : Value) (hq : q < B) : RowM (w.setCell ⟨q, j, none⟩ u) v ds := by
  obtain ⟨a, c, e, h1, h2, h3⟩ := h
  refine ⟨a, c, e, h1, h2, ?_⟩
  rcases h3 with h3 | ⟨b, off, e2, hlt, hc⟩
  · exact .inl h3
  · rcases hn with h0 | ⟨b', c', e3, hb⟩
    · exact .inl h0
    · rw [e] at e3
      injection e3 with e4 _ _
      rw [e2] at e4
      injection e4 with e4
      injection e4 with e4 e5
      subst e4
      have o : ∀ k, (w.setCell ⟨q, j, none⟩ u).cell? ⟨b, k, none⟩ = w.cell? ⟨b, k, none⟩ := fun k => World.cell?_setCell_other _ _ _ _ (fun e => by injection e with e1 _; omega)
      exact .inr ⟨b, off, e2, by simpa [World.setCell] using hlt, fun i hi => ⟨(o _).trans (hc i hi).1, (o _).trans (hc i hi).2⟩⟩

set_option maxRecDepth 8000 in
set_option maxHeartbeats 4000000 in
theorem rest_any (a : Option Addr) (cap : Nat) (xss : List (List Int)) (kv : Value) (kn : List Bool) (w : World) (hr : RowsAt w a cap xss) (hk : BoolRow w kv kn) (hxs : ∀ xs ∈ xss, InW xs) (hkn : kn.length ≤ 1000000) (hp : ∀ c ∈ xss, ∀ l ∈ c, plc l ≤ kn.length + 20) (hm : xss.length ≤ 1000000) :
    Calls Tryd.prog 43 #[.slice a xss.length cap, kv] w fun e w' => (∃ v ds, e = .returned v ∧ RowM w' v ds ∧ NewM w.heap.size v ds ∧ (∀ x, x ∈ ds ↔ x ∈ restL kn xss)) ∧ Below w.heap.size w w' := by
  have HK := Lib.hid hk
  obtain ⟨ak, ck, rfl, hk1, hk2, hk3⟩ := hk
  unfold maxLen at hk2
  obtain ⟨hr1, hr2, hr3⟩ := hr
  unfold maxLen at hr2
  have HR3 := Lib.hid hr3; clear hr3
  have HAF := Lib.hid (fun k (hk : k < xss.length) v W (hv : Row W v (xss.getD k [])) => after_any v (xss.getD k []) kn.length W hv (hxs _ (by simp [List.getD, hk])) hkn (hp _ (by simp [List.getD, hk])))
  have HTK := Lib.hid (fun k (hk : k < xss.length) => restL_take kn xss k hk)
  have HTE : Hid (restL kn (xss.take xss.length) = restL kn xss) := by rw [List.take_length]; rfl
  have HOW := Lib.hid (own_lit w w.heap.size 4 [.bool false] (Nat.le_refl _) (by simp))
  have HBA := Lib.hid (show Below w.heap.size w (w.alloc (.cells #[.bool false] 4)) from (Below.refl _ w).alloc (Nat.le_refl _) _)
  have HKC : Hid (kn.length = 0 ∨ ∃ ad, ak = some ad ∧ ∀ j u, (kn.map Value.bool)[j]? = some u → (w.alloc (.cells #[.bool false] 4)).cell? (ad.add j) = some u) := by
    rcases hk3 with h0 | ⟨b, off, rfl, hlt, hc⟩
    · exact .inl h0
    · refine .inr ⟨_, rfl, fun j u hj => ?_⟩
      have hjl : j < kn.length := by
        rcases Nat.lt_or_ge j kn.length with h' | h'
        · exact h'
        · rw [List.getElem?_eq_none (by simpa using h')] at hj; cases hj
      rw [show (⟨b, off, none⟩ : Addr).add j = ⟨b, off + j, none⟩ by unfold Addr.add; split <;> simp_all]
      rw [(HBA.out.cell (p := ⟨b, off + j, none⟩) hlt), hc j hjl]
      simpa [List.getD, hjl] using hj
  have HK1 : Hid ((kn.map Value.bool).length = kn.length * 1) := by unfold Hid; simp
  have HK2 : Hid (∀ u ∈ kn.map Value.bool, u.oneCell' = true) := fun u hu => by
    obtain ⟨x, _, rfl⟩ := List.mem_map.1 hu
    rfl
  have HKV : Hid (∀ (W : World) v, W.ownsRow w.heap.size 4 1 v (1 + kn.length) ([.bool false] ++ kn.map Value.bool) → BoolRow W v (false :: kn)) := fun W v h => own_rowG (n := 1 + kn.length) (B := w.heap.size) (e := 4) (xs := false :: kn) h
  have HXS := Lib.hid hxs
  clear hk3 hp hxs
  go_enter Tryd.func43, Tryd.ntmps43
  go_wp2_with (at_builtin; refine wpList_appC 52 4 (.bool false) 1 1 Tryd.underlying52 infoBo rfl (by decide) (by decide) rfl _ _ rfl _ w.heap.size _ 1 _ ak kn.length ck _ HOW.out HBA.out.size (by omega) HK1.out HKC.out HK2.out rfl rfl ?_; intro o' w2 hown2 hap2)
  obtain ⟨av, cv, rfl⟩ := own_shape3 hown2
  have HBR0 : Hid (Below w.heap.size w w2) := HBA.out.trans hap2.below
  have HVAL := Lib.hid (HKV.out w2 _ hown2)
  have hs2 : w.heap.size ≤ w2.heap.size := HBR0.out.size
  clear hown2 hap2 HOW HKC HK1 HK2 HKV
  generalize 1 + kn.length = nv at *
  generalize hN : xss.length = m at *
  have HN := Lib.hid hN; clear hN
  go_loopw [6, 8, 9, 15] (fun out _ _ i wr => ∃ (k : Nat) (ds : List Mk), k ≤ m ∧ i = .int .i64 k ∧ wr.ownsRow w2.heap.size 104 2 out ds.length (flatM ds) ∧ ds.length ≤ k ∧ Below w2.heap.size w2 wr ∧ Hid (ds = restL kn (xss.take k))) (fun _ _ _ i _ => m - (intOf i).toNat)
  case atStart => exact ⟨0, [], Nat.zero_le _, rfl, ⟨rfl, .inl ⟨rfl, rfl⟩⟩, Nat.le_refl _, Below.refl _ _, by simp [Hid, restL]⟩
  case round =>
    obtain ⟨k, ds, hk, rfl, hown, hdk, hbr, HDS⟩ := hrel
    have hbw := HBR0.out.trans (hbr.mono hs2)
    by_cases hlt : k < m
    · obtain ⟨b, off, ha, hb, hc⟩ := HR3.out.resolve_left (by omega)
      subst ha
      obtain ⟨v, g0, hv⟩ := hc k hlt
      have g1 := (hbw.cell (p := ⟨b, off + k, none⟩) hb).trans g0
      have hvr := hv.keep hbw
      have HAK := Lib.hid (HAF.out k hlt v wr hvr)
      have HTKK := Lib.hid (HTK.out k hlt)
      have hin : InW (xss.getD k []) := row_inW HXS.out k
      have HVR := Lib.hid hvr
      have HBS := Lib.hid hbr
      obtain ⟨ao, co, rfl⟩ := own_shape3 hown
      have HOWN := Lib.hid (fun W (hW : Below wr.heap.size wr W) => own_keep hown hW)
      have hsr := hbr.size
      have HOF : Hid (∀ w3, Below wr.heap.size wr w3 → ∀ P M : Int, Calls Tryd.prog 58 #[.slice (some ⟨w3.heap.size + 1, 0, none⟩) 1 1, .slice av nv cv] ((w3.alloc (.cells #[.int .i64 P, .int .i64 M] 104)).alloc (.cells #[v] 30)) fun e w' => e = .returned (.bool (ofC (false :: kn) (xss.getD k []))) ∧ (w3.alloc (.cells #[.int .i64 P, .int .i64 M] 104)).alloc (.cells #[v] 30) = w') := fun w3 h3 P M => by
        have hx : Below w3.heap.size w3 ((w3.alloc (.cells #[.int .i64 P, .int .i64 M] 104)).alloc (.cells #[v] 30)) := ((Below.refl _ _).alloc (Nat.le_refl _) _).alloc (by simp) _
        have hy := h3.trans (hx.mono h3.size)
        have h1 := of_any (some ⟨w3.heap.size + 1, 0, none⟩) 1 [xss.getD k []] (.slice av nv cv) (false :: kn) ((w3.alloc (.cells #[.int .i64 P, .int .i64 M] 104)).alloc (.cells #[v] 30)) ⟨by simp, by unfold maxLen; omega, .inr ⟨_, 0, rfl, by simp, fun i hi => by
          have hi0 : i = 0 := by simpa using hi
          subst hi0
          exact ⟨v, World.cell?_alloc_at _ _ _ _ (by simp), HVR.out.keep hy⟩⟩⟩ (HVAL.out.keep (HBS.out.trans (hy.mono hsr))) (fun xs hx => by rw [List.mem_singleton.1 hx]; exact hin)
        simpa [ofL] using h1
      clear hv hvr hc g0 hown hin
      generalize xss.getD k [] = c at *
      have hkM : keepM kn c = (tautM (afterM kn.length c) && !ofC (false :: kn) c) := rfl
      have HKM := Lib.hid hkM; clear hkM
      obtain ⟨al, cl, rfl, _⟩ := HVR.out
      have htm : ∀ P M : Nat, tautM (P, M) = (bits .and .i64 (P : Int) (M : Int) == 0) := fun _ _ => rfl
      have HTM := Lib.hid htm; clear htm
      generalize afterM kn.length c = d at *
      obtain ⟨P, M⟩ := d
      have HTM2 := Lib.hid (HTM.out P M)
      generalize tautM (P, M) = tb at *
      have htb : (bits .and .i64 (P : Int) (M : Int) == 0) = tb := HTM2.out.symm
      generalize ofC (false :: kn) c = ob at *
      simp only at HAK
      have HBWR := Lib.hid hbr
      clear HTM HTM2 hbr hbw
      generalize hnc : c.length = nc at *
      have HNC := Lib.hid hnc; clear hnc
      cases tb with
      | false =>
        have HD2 : Hid (ds = restL kn (xss.take (k + 1))) := by
          unfold Hid
          rw [HTKK.out, HKM.out, ← HDS.out]
          simp
        clear HTKK HKM HOF
        go_wp2_with (go_at_call 57; refine HAK.out.mono ?_; rintro e w3 ⟨rfl, hb3⟩; have hso3 := HOWN.out _ (hb3.alloc (by have := hb3.size; omega) (.cells #[.int .i64 (P : Int), .int .i64 (M : Int)] 104)))
        go_roundw
        case rel => exact ⟨k + 1, ds, by omega, by go_num, hso3, by omega, HBWR.out.trans ((hb3.alloc (by have := hb3.size; omega) _).mono hsr), HD2.out⟩
        case measure => simp [intOf]; omega
      | true =>
        cases ob with
        | true =>
          have HD2 : Hid (ds = restL kn (xss.take (k + 1))) := by
            unfold Hid
            rw [HTKK.out, HKM.out, ← HDS.out]
            simp
          clear HTKK HKM
          go_wp2_with (first
            | (go_at_call 57; refine HAK.out.mono ?_; rintro e w3 ⟨rfl, hb3⟩; have hof := HOF.out w3 hb3 (P : Int) (M : Int); have hb4 := (hb3.alloc (by have := hb3.size; omega) (.cells #[.int .i64 (P : Int), .int .i64 (M : Int)] 104)).alloc (by have := hb3.size; simp; omega) (.cells #[.slice al nc cl] 30); have hso4 := HOWN.out _ hb4)
            | (go_at_call 58; refine hof.mono ?_; rintro e w4 ⟨rfl, rfl⟩))
          go_roundw
          case rel => exact ⟨k + 1, ds, by omega, by go_num, hso4, by omega, HBWR.out.trans (hb4.mono hsr), HD2.out⟩
          case measure => simp [intOf]; omega
        | false =>
          have HD2 : Hid (ds ++ [(P, M)] = restL kn (xss.take (k + 1))) := by
            unfold Hid
            rw [HTKK.out, HKM.out, ← HDS.out]
            simp
          have HFL : Hid (flatM ds ++ [.int .i64 (P : Int), .int .i64 (M : Int)] = flatM (ds ++ [(P, M)])) := by unfold Hid flatM; rw [List.flatMap_append]; rfl
          have HLN : Hid ((ds ++ [(P, M)]).length = ds.length + 1) := by simp [Hid]
          clear HTKK HKM
          go_wp2_with (first
            | (go_at_call 57; refine HAK.out.mono ?_; rintro e w3 ⟨rfl, hb3⟩; have hof := HOF.out w3 hb3 (P : Int) (M : Int); have hb4 := (hb3.alloc (by have := hb3.size; omega) (.cells #[.int .i64 (P : Int), .int .i64 (M : Int)] 104)).alloc (by have := hb3.size; simp; omega) (.cells #[.slice al nc cl] 30); have hso4 := HOWN.out _ hb4; have hs4 := hb4.size)
            | (go_at_call 58; refine hof.mono ?_; rintro e w4 ⟨rfl, rfl⟩)
            | (at_builtin; refine wpList_appS 78 104 _ 2 16 Tryd.underlying78 infoCl rfl (by decide) (by decide) rfl _ _ rfl ((w3.alloc (.cells #[.int .i64 (P : Int), .int .i64 (M : Int)] 104)).alloc (.cells #[.slice al nc cl] 30)) w2.heap.size _ ds.length (flatM ds) [.int .i64 (P : Int), .int .i64 (M : Int)] (by intro y hy; simp at hy; rcases hy with rfl | rfl <;> rfl) rfl hso4 (by omega) (by omega) (w3.heap.size + 1 + 1) (by simp) rfl rfl ?_; intro o5 w5 hown5 hap5))
          go_roundw
          case rel => exact ⟨k + 1, ds ++ [(P, M)], by omega, by go_num, by rw [HLN.out, ← HFL.out]; exact hown5, by rw [HLN.out]; omega, (HBWR.out.trans (hb4.mono hsr)).trans hap5.below, HD2.out⟩
          case measure => simp [intOf]; omega
    · have hkm : k = m := by omega
      subst hkm
      have HBW := Lib.hid hbw
      have HMEM : Hid (∀ es : List Mk, (∀ x, x ∈ es ↔ x ∈ ds) → ∀ x, x ∈ es ↔ x ∈ restL kn xss) := fun es he x => by
        rw [he, HDS.out, HTE.out]
      by_cases h0 : ds.length = 0
      · obtain ⟨ao, co, hv, h92⟩ : ∃ ao co, _ = Value.slice ao 0 co ∧ co ≤ maxLen := by
          rcases hown.2 with ⟨e0, _⟩ | ⟨g, co, cur, e0, _, _, _, h2, _⟩
          · exact ⟨none, 0, e0, by unfold maxLen; omega⟩
          · exact ⟨_, co, by rw [e0, h0], h2⟩
        subst hv
        have hd0 : ds = [] := List.eq_nil_of_length_eq_zero h0
        have HE := Lib.hid (fun x => (HMEM.out [] (fun x => by rw [hd0]) x))
        have HS := Lib.hid (fun W => sortM_none co ao W)
        have HC := Lib.hid (fun W => compactM_none ao co W)
        have HCC := Lib.hid h92
        clear hown hbr hbw h92 hd0
        go_wp2_with (first
          | (go_at_call 59; refine (HS.out _).mono ?_; rintro e w' ⟨rfl, rfl⟩)
          | (go_at_call 61; refine (HC.out _).mono ?_; rintro e w' ⟨rfl, rfl⟩))
        go_ret
        exact ⟨⟨_, [], rfl, ⟨ao, co, rfl, Nat.zero_le _, HCC.out, .inl rfl⟩, .inl rfl, HE.out⟩, HBW.out⟩
      · obtain ⟨g, co, hv, hM, hBg, hgl, hdc, hcm⟩ : ∃ g co, _ = Value.slice (some ⟨g, 0, none⟩) ds.length co ∧ MCel wr g 0 ds ∧ w2.heap.size ≤ g ∧ g < wr.heap.size ∧ ds.length ≤ co ∧ co ≤ maxLen := by
          rcases hown.2 with ⟨_, e1⟩ | ⟨g, co, cur, e0, _⟩
          · exact absurd e1 h0
          · rw [e0] at hown
            obtain ⟨q1, q2, q3, q4, q5⟩ := own_mcel hown
            exact ⟨g, co, e0, q1, q2, q3, q4, q5⟩
        subst hv
        have HS := Lib.hid (sortM_cel w2.heap.size g co ds wr hM hBg hgl (by omega))
        have HC := Lib.hid (fun (es : List Mk) W (hl : es.length = ds.length) (hm : MCel W g 0 es) => show Calls Tryd.prog 61 #[.slice (some ⟨g, 0, none⟩) ds.length co] W (CmpPost w2.heap.size g 0 co es W) from hl ▸ compactM_any w2.heap.size g 0 co es W hm hBg (by omega) (by omega))
        have HBR := Lib.hid hbr
        have HDC := Lib.hid (And.intro hdc hcm)
        have HGL := Lib.hid hgl
        clear hown hM hbr hbw hdc hcm
        generalize ds.length = nd at *
        go_wp2_with (first
          | (go_at_call 59; refine HS.out.mono ?_; rintro e w4 ⟨rfl, es, hel, hem, hmc, hb4⟩; have hcc := HC.out es w4 hel hmc)
          | (go_at_call 61; refine hcc.mono ?_; rintro e w5 ⟨fs, rfl, hfl, hfm, hff, hb5⟩))
        go_ret
        refine ⟨⟨_, fs, rfl, hfm.row ?_ co (by rw [hel] at hfl; have := HDC.out.1; omega) HDC.out.2, .inr ⟨g, co, rfl, by omega⟩, HMEM.out fs fun x => (hff x).trans (hem x)⟩, HBW.out.trans (((hb4.trans hb5)).mono (by omega) |> fun h => h)⟩
        have h1 := hb4.size
        have h2 := hb5.size
        omega
end Go.Proofs.YtcodmijphejfdaaDoor
