/- The contract of the document's own skolemref1.ReadCNF. Conditions: the slice reads as bytes, few of them. -/
import Derived.Test.YteihaanpllmieaaDoorRefC
import Derived.Test.YteihaanpllmieaaDoorRefSplit
import Derived.RegionTactic
namespace Go.Proofs.YteihaanpllmieaaDoor
open Go.RowKit

def RRPost (w : World) (e : Int) (R : Int × List (List Int) × List Wd × Flt) (r : Ending) (w' : World) : Prop :=
  (∃ cv, r = .returned (.tuple #[.agg #[.int .i64 R.1, cv], fltV R.2.2.1 e R.2.2.2]) ∧ CRow w' (w.heap.size + 1) cv R.2.1) ∧ Below w.heap.size w w'
theorem refSplit_row (v : Value) (xs : List Int) (cm : Bool) (w : World) (hv : RowG (Value.int .u8) 0 w v xs) (hb : Bts xs) (hn : xs.length ≤ 4000000) :
    Calls Tryd.prog 10 #[v, .bool cm] w fun e w' => (∃ u, e = .returned u ∧ WRow w' u (wordsL cm xs)) ∧ Below w.heap.size w w' :=
  (refSplit_any v xs cm w hv hb hn).mono fun _ _ ⟨u, he, ho, hb⟩ => ⟨⟨u, he, own_wrow ho⟩, hb⟩
theorem cnt_pos {ws : List Wd} {k : Nat} {n : Int} (h : cntL ws k = some n) : 0 ≤ n ∧ n < 1000000000 := by
  unfold cntL at h
  split at h
  · rename_i h'
    exact ⟨numL_pos h'.2.2 h, (numL_bd h).2⟩
  · cases h
theorem head_bd {ws : List Wd} (h : (headL ws).2.2.isOk = true) : 0 ≤ (headL ws).1 ∧ (headL ws).1 ≤ 4000 := by
  unfold headL at *
  split at h
  · cases h
  · split at h
    · cases h
    · split at h
      · cases h
      · split at h
        · cases h
        · split at h
          · cases h
          · split at h
            · cases h
            · rename_i a b _ x hx hx2 _ y hy hy2
              simp only [a, b, hx2, hy2, if_false]
              have := cnt_pos hx
              omega
theorem code_zero (f : Flt) : (f.code != 0) = !f.isOk := by cases f <;> rfl

/-- Where the two results lie, whatever is made behind them. -/
theorem resW {w W : World} (h : Below ((w.alloc (.cells #[.int .i64 0, .slice none 0 0] 26)).alloc (.cells #[.int .i64 0, .bool false, .int .i64 0] 32)).heap.size ((w.alloc (.cells #[.int .i64 0, .slice none 0 0] 26)).alloc (.cells #[.int .i64 0, .bool false, .int .i64 0] 32)) W) :
    W.cell? ⟨w.heap.size, 0, none⟩ = some (.int .i64 0) ∧ W.cell? ⟨w.heap.size, 1, none⟩ = some (.slice none 0 0) ∧ W.cell? ⟨w.heap.size + 1, 0, none⟩ = some (.int .i64 0) ∧ W.cell? ⟨w.heap.size + 1, 1, none⟩ = some (.bool false) ∧ W.cell? ⟨w.heap.size + 1, 2, none⟩ = some (.int .i64 0) ∧ (∀ k, W.frozen? ⟨w.heap.size, k, none⟩ = false) ∧ (∀ k, W.frozen? ⟨w.heap.size + 1, k, none⟩ = false) := by
  obtain ⟨hc, hf⟩ := bcell h
  refine ⟨?_, ?_, ?_, ?_, ?_, fun k => ?_, fun k => ?_⟩
  · rw [hc _ _ (by simp <;> omega), World.cell?_alloc_lt _ _ ⟨w.heap.size, 0, none⟩ (by simp), World.cell?_alloc_at _ _ _ _ (by simp)]; rfl
  · rw [hc _ _ (by simp <;> omega), World.cell?_alloc_lt _ _ ⟨w.heap.size, 1, none⟩ (by simp), World.cell?_alloc_at _ _ _ _ (by simp)]; rfl
  · rw [hc _ _ (by simp <;> omega), World.cell?_alloc_at _ _ _ _ (by simp)]; rfl
  · rw [hc _ _ (by simp <;> omega), World.cell?_alloc_at _ _ _ _ (by simp)]; rfl
  · rw [hc _ _ (by simp <;> omega), World.cell?_alloc_at _ _ _ _ (by simp)]; rfl
  · rw [hf _ _ (by simp <;> omega), World.frozen?_alloc_old _ _ ⟨w.heap.size, k, none⟩ (by simp)]; exact World.frozen?_alloc_at _ _ _ _ (by simp)
  · rw [hf _ _ (by simp <;> omega)]; exact World.frozen?_alloc_at _ _ _ _ (by simp)

set_option maxHeartbeats 4000000 in
theorem refRead_any (v : Value) (xs : List Int) (w : World) (hv : RowG (Value.int .u8) 0 w v xs) (hb : Bts xs) (hn : xs.length ≤ 4000) :
    Calls Tryd.prog 8 #[v] w (RRPost w xs.length (readL xs)) := by
  obtain ⟨hok, hwn⟩ := words_ok hb hn
  have HSP := Lib.hid (fun W (hW : Below w.heap.size w W) => refSplit_row v xs true W (hv.keep hW) hb (by omega))
  have HH := Lib.hid (fun u W (h : WRow W u (wordsL true xs)) => refHead_any u (wordsL true xs) xs.length W h hok hwn)
  have HC := Lib.hid (fun u W (h : WRowO W u ((wordsL true xs).drop 4)) (h1 : -9223372036854775808 ≤ (headL (wordsL true xs)).1) (h2 : (headL (wordsL true xs)).1 ≤ 9223372036854775807) => refCls_any u ((wordsL true xs).drop 4) xs.length (headL (wordsL true xs)).1 (headL (wordsL true xs)).2.1 W h (hok.drop 4) (by rw [List.length_drop]; omega) h1 h2)
  obtain ⟨a, cap, rfl, hcl, hcm, _⟩ := hv
  unfold maxLen at hcm
  clear hb hok
  have hbw : ∀ o, Below w.heap.size w (w.alloc o) := fun o => (Below.refl _ w).alloc (Nat.le_refl _) _
  have HB := Lib.hid hbw; clear hbw
  have H4 := Lib.hid (fun h => head_four (ws := wordsL true xs) h)
  unfold readL
  generalize wordsL true xs = ws at *
  generalize hlen : xs.length = n at *
  unfold RHPost at HH
  unfold RCPost at HC
  cases hk : (headL ws).2.2.isOk with
  | false =>
    rw [if_neg (by simp)]
    have hcd : ((headL ws).2.2.code != 0) = true := by rw [code_zero, hk]; rfl
    clear HC H4 hk
    have HFV := Lib.hid (show fltV ws n (headL ws).2.2 = .agg #[.int .i64 (headL ws).2.2.code, .bool (headL ws).2.2.placed, .int .i64 ((headL ws).2.2.pos ws n)] from rfl)
    rw [HFV.out] at HH
    show Calls _ _ _ _ (fun r w' => (∃ cv, r = .returned (.tuple #[.agg #[.int .i64 0, cv], .agg #[.int .i64 (headL ws).2.2.code, .bool (headL ws).2.2.placed, .int .i64 ((headL ws).2.2.pos ws n)]]) ∧ CRow w' (w.heap.size + 1) cv []) ∧ Below w.heap.size w w')
    clear HFV
    generalize (headL ws).2.2.pos ws n = fp at *
    generalize (headL ws).2.2.placed = fl at *
    generalize (headL ws).2.2.code = fc at *
    generalize (headL ws).2.1 = n2 at *
    generalize (headL ws).1 = n1 at *
    go_enter Tryd.func8, Tryd.ntmps8
    go_wp2_with (first
      | (go_at_call 10; refine (HSP.out _ ((HB.out _).alloc (by simp) _)).mono ?_; rintro e w1 ⟨⟨u, rfl, hr⟩, hb1⟩)
      | (go_at_call 12; refine (HH.out _ _ hr).mono ?_; rintro e w2 ⟨rfl, hb2⟩; have hba2 := hb1.trans (hb2.mono hb1.size); have hsz := hba2.size; simp at hsz; obtain ⟨r1, r2, r3, r4, r5, r6, r7⟩ := resW (hba2.alloc hba2.size (.cells #[.int .i64 fc, .bool fl, .int .i64 fp] 32))))
    have q1 : ¬ w.heap.size = w2.heap.size := by omega
    have q2 : ¬ w.heap.size + 1 = w2.heap.size := by omega
    have q3 : ¬ w2.heap.size = w.heap.size := by omega
    have q4 : ¬ w2.heap.size = w.heap.size + 1 := by omega
    go_region
    go_wp2
    have hbw : Below w.heap.size w w2 := ((HB.out _).alloc (by simp) _).trans (hba2.mono (by simp; omega))
    exact bodyPost_ret (v := .tuple #[.agg #[.int .i64 0, .slice none 0 0], .agg #[.int .i64 fc, .bool fl, .int .i64 fp]]) (by simp [results, Tryd.results8, go_sem, r1, r2, r3, r4, r5]) rfl ⟨⟨_, rfl, CRow.nil _ _⟩, (((((((hbw.alloc (by omega) _).setCell (Nat.le_refl _) _).setCell (Nat.le_refl _) _).setCell (by simp) _).setCell (by simp) _).setCell (by simp) _).drew)⟩
  | true =>
    rw [if_pos rfl]
    have h4 := H4.out hk
    have HOK := Lib.hid ((isOk_iff _).1 hk)
    clear H4
    have hcut : ∀ W u, WRow W u ws → ∃ g c, u = .slice (some ⟨g, 0, none⟩) ws.length c ∧ ws.length ≤ c ∧ c ≤ 9223372036854775807 ∧ ∀ W', Below W.heap.size W W' → ∀ c', ws.length - 4 ≤ c' → c' ≤ 9223372036854775807 → WRowO W' (.slice (some ⟨g, 12, none⟩) (ws.length - 4) c') (ws.drop 4) := fun W u h => by
      obtain ⟨g, c, e, h1, h2, h3⟩ := wrow_some h (by omega)
      refine ⟨g, c, e, h1, h2, fun W' hW c' h5 h6 => ⟨_, c', by rw [List.length_drop], by rw [List.length_drop]; exact h5, by unfold maxLen; omega, .inr ⟨g, 12, rfl, (h3.keep hW).cut 4⟩⟩⟩
    have HCUT := Lib.hid hcut; clear hcut
    have HCUT2 : Hid (∀ W a', ws.length ≤ 4 → WRowO W (.slice a' (ws.length - 4) 0) (ws.drop 4)) := fun W a' h => ⟨a', 0, by rw [List.length_drop], by rw [List.length_drop]; omega, by unfold maxLen; omega, .inl (by rw [List.length_drop]; omega)⟩
    have HBD := Lib.hid (head_bd hk)
    rw [HOK.out] at HH
    have HFV := Lib.hid (show fltV ws n .ok = .agg #[.int .i64 0, .bool false, .int .i64 0] from rfl)
    rw [HFV.out] at HH
    clear HOK hk HFV
    generalize (headL ws).2.1 = n2 at *
    generalize (headL ws).1 = n1 at *
    have HC' := Lib.hid (fun u W h => HC.out u W h (by have := HBD.out; omega) (by have := HBD.out; omega))
    clear HC
    have HFD := Lib.hid (show fltV (ws.drop 4) n (clausesL n1 n2 0 (ws.drop 4) [] []).2 = .agg #[.int .i64 (clausesL n1 n2 0 (ws.drop 4) [] []).2.code, .bool (clausesL n1 n2 0 (ws.drop 4) [] []).2.placed, .int .i64 ((clausesL n1 n2 0 (ws.drop 4) [] []).2.pos (ws.drop 4) n)] from rfl)
    rw [HFD.out] at HC'
    cases hk : (clausesL n1 n2 0 (ws.drop 4) [] []).2.isOk with
    | false =>
      rw [if_neg (by simp)]
      have hcd : ((clausesL n1 n2 0 (ws.drop 4) [] []).2.code != 0) = true := by rw [code_zero, hk]; rfl
      show Calls _ _ _ _ (fun r w' => (∃ cv, r = .returned (.tuple #[.agg #[.int .i64 0, cv], fltV (ws.drop 4) n (clausesL n1 n2 0 (ws.drop 4) [] []).2]) ∧ CRow w' (w.heap.size + 1) cv []) ∧ Below w.heap.size w w')
      rw [HFD.out]
      clear hk HFD
      generalize (clausesL n1 n2 0 (ws.drop 4) [] []).2.pos (ws.drop 4) n = fp at *
      generalize (clausesL n1 n2 0 (ws.drop 4) [] []).2.placed = fl at *
      generalize (clausesL n1 n2 0 (ws.drop 4) [] []).2.code = fc at *
      generalize (clausesL n1 n2 0 (ws.drop 4) [] []).1 = out at *
      generalize ws.length = m at *
      go_enter Tryd.func8, Tryd.ntmps8
      go_wp2_with (first
        | (go_at_call 10; refine (HSP.out _ ((HB.out _).alloc (by simp) _)).mono ?_; rintro e w1 ⟨⟨u, rfl, hr⟩, hb1⟩; obtain ⟨g, c, rfl, hmc, hc9, hr4⟩ := HCUT.out _ _ hr)
        | (go_at_call 12; refine (HH.out _ _ hr).mono ?_; rintro e w2 ⟨rfl, hb2⟩; have hba2 := hb1.trans (hb2.mono hb1.size); have hsz := hba2.size; simp at hsz; have hba := hba2.alloc hba2.size (.cells #[.int .i64 0, .bool false, .int .i64 0] 32))
        | (go_at_call 16; refine (HC'.out _ _ (by first | exact hr4 _ (hb2.alloc hb2.size _) _ (by omega) (by omega) | exact HCUT2.out _ _ (by omega))).mono ?_; rintro e w3 ⟨⟨cv, rfl, hC⟩, hb3⟩; have hba3 := hba.trans (hb3.mono hba.size); obtain ⟨r1, r2, r3, r4, r5, r6, r7⟩ := resW hba3; obtain ⟨hc, hf⟩ := bcell hb3; obtain ⟨a9, c9, rfl, _⟩ := hC.rows))
      all_goals
        have q1 : ¬ w.heap.size = w2.heap.size := by omega
        have q2 : ¬ w.heap.size + 1 = w2.heap.size := by omega
        have q3 : ¬ w2.heap.size = w.heap.size := by omega
        have q4 : ¬ w2.heap.size = w.heap.size + 1 := by omega
        have s0 : w3.cell? ⟨w2.heap.size, 0, none⟩ = some (.int .i64 0) := by rw [hc _ _ (by simp), World.cell?_alloc_at _ _ _ _ (by simp)]; rfl
        have s1 : w3.cell? ⟨w2.heap.size, 1, none⟩ = some (.bool false) := by rw [hc _ _ (by simp), World.cell?_alloc_at _ _ _ _ (by simp)]; rfl
        have s2 : w3.cell? ⟨w2.heap.size, 2, none⟩ = some (.int .i64 0) := by rw [hc _ _ (by simp), World.cell?_alloc_at _ _ _ _ (by simp)]; rfl
        have hbw : Below w.heap.size w w3 := ((HB.out _).alloc (by simp) _).trans (hba3.mono (by simp; omega))
        have hb3s := hb3.size
        simp at hb3s
        go_region
        go_wp2
        exact bodyPost_ret (v := .tuple #[.agg #[.int .i64 0, .slice none 0 0], .agg #[.int .i64 fc, .bool fl, .int .i64 fp]]) (by simp [results, Tryd.results8, go_sem, r1, r2, r3, r4, r5]) rfl ⟨⟨_, rfl, CRow.nil _ _⟩, ((((((((hbw.setCell (by simp; omega) _).setCell (by simp; omega) _).setCell (by simp; omega) _).setCell (Nat.le_refl _) _).setCell (Nat.le_refl _) _).setCell (by simp) _).setCell (by simp) _).setCell (by simp) _).drew⟩
    | true =>
      rw [if_pos rfl]
      have HOK := Lib.hid ((isOk_iff _).1 hk)
      rw [HOK.out] at HC'
      show Calls _ _ _ _ (fun r w' => (∃ cv, r = .returned (.tuple #[.agg #[.int .i64 n1, cv], .agg #[.int .i64 0, .bool false, .int .i64 0]]) ∧ CRow w' (w.heap.size + 1) cv (clausesL n1 n2 0 (ws.drop 4) [] []).1) ∧ Below w.heap.size w w')
      simp only [Flt.code, Flt.placed, Flt.pos] at HC'
      clear hk HFD HOK
      generalize (clausesL n1 n2 0 (ws.drop 4) [] []).1 = out at *
      generalize ws.length = m at *
      go_enter Tryd.func8, Tryd.ntmps8
      go_wp2_with (first
        | (go_at_call 10; refine (HSP.out _ ((HB.out _).alloc (by simp) _)).mono ?_; rintro e w1 ⟨⟨u, rfl, hr⟩, hb1⟩; obtain ⟨g, c, rfl, hmc, hc9, hr4⟩ := HCUT.out _ _ hr)
        | (go_at_call 12; refine (HH.out _ _ hr).mono ?_; rintro e w2 ⟨rfl, hb2⟩; have hba2 := hb1.trans (hb2.mono hb1.size); have hsz := hba2.size; simp at hsz; have hba := hba2.alloc hba2.size (.cells #[.int .i64 0, .bool false, .int .i64 0] 32))
        | (go_at_call 16; refine (HC'.out _ _ (by first | exact hr4 _ (hb2.alloc hb2.size _) _ (by omega) (by omega) | exact HCUT2.out _ _ (by omega))).mono ?_; rintro e w3 ⟨⟨cv, rfl, hC⟩, hb3⟩; have hba3 := hba.trans (hb3.mono hba.size); obtain ⟨r1, r2, r3, r4, r5, r6, r7⟩ := resW hba3; obtain ⟨hc, hf⟩ := bcell hb3; obtain ⟨a9, c9, rfl, _⟩ := hC.rows))
      all_goals
        have q1 : ¬ w.heap.size = w2.heap.size := by omega
        have q2 : ¬ w.heap.size + 1 = w2.heap.size := by omega
        have q3 : ¬ w2.heap.size = w.heap.size := by omega
        have q4 : ¬ w2.heap.size = w.heap.size + 1 := by omega
        have s0 : w3.cell? ⟨w2.heap.size, 0, none⟩ = some (.int .i64 0) := by rw [hc _ _ (by simp), World.cell?_alloc_at _ _ _ _ (by simp)]; rfl
        have s1 : w3.cell? ⟨w2.heap.size, 1, none⟩ = some (.bool false) := by rw [hc _ _ (by simp), World.cell?_alloc_at _ _ _ _ (by simp)]; rfl
        have s2 : w3.cell? ⟨w2.heap.size, 2, none⟩ = some (.int .i64 0) := by rw [hc _ _ (by simp), World.cell?_alloc_at _ _ _ _ (by simp)]; rfl
        have hbw : Below w.heap.size w w3 := ((HB.out _).alloc (by simp) _).trans (hba3.mono (by simp; omega))
        have hb3s := hb3.size
        simp at hb3s
        go_region
        go_wp2
        have hcc := ((((((((hC.set w2.heap.size 0 (.int .i64 0) (by simp; omega)).set w2.heap.size 1 (.bool false) (by simp; omega)).set w2.heap.size 2 (.int .i64 0) (by simp; omega)).set w.heap.size 0 (.int .i64 n1) (by simp; omega)).set w.heap.size 1 (.slice a9 out.length c9) (by simp; omega)).set (w.heap.size + 1) 0 (.int .i64 0) (by simp; omega)).set (w.heap.size + 1) 1 (.bool false) (by simp; omega)).set (w.heap.size + 1) 2 (.int .i64 0) (by simp; omega)).mono (show w.heap.size + 1 ≤ _ by simp; omega)
        exact bodyPost_ret (v := .tuple #[.agg #[.int .i64 n1, .slice a9 out.length c9], .agg #[.int .i64 0, .bool false, .int .i64 0]]) (by simp [results, Tryd.results8, go_sem, r1, r2, r3, r4, r5]) rfl ⟨⟨_, rfl, hcc.keep (Below.refl _ _).drew⟩, ((((((((hbw.setCell (by simp; omega) _).setCell (by simp; omega) _).setCell (by simp; omega) _).setCell (Nat.le_refl _) _).setCell (Nat.le_refl _) _).setCell (by simp) _).setCell (by simp) _).setCell (by simp) _).drew⟩
end Go.Proofs.YteihaanpllmieaaDoor
