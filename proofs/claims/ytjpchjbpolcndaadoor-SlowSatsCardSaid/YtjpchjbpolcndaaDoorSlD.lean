/- The two errors that package slow reads, as they lie. Conditions: those of the card. · The contract of slow.Value: who wins by going through all. Conditions: the game reads as lists of 64-bit ints; the two errors lie as 'Sents2' says. · The contract of slow.Value where the game is right and small: the value by going through all. Conditions: the game reads as lists of 64-bit ints. · The contract of slow.Wins where the game is right and small and there are as many values as places: whether these win. Conditions: the game reads as lists of 64-bit ints, the values as bools. · The contract of slow.Wins where it tells an error. Conditions: the game reads as lists of 64-bit ints; the two errors lie as 'Sents2' says. · Contracts of skolemlaw7.first and skolemsee.Is. Conditions: those typed. -/
import Derived.Test.YtjpchjbpolcndaaDoorSents
import Derived.Test.YtjpchjbpolcndaaDoorSlC
import Derived.Test.YtjpchjbpolcndaaDoorMatP
import Derived.Test.YtjpchjbpolcndaaDoorNormS
import Derived.Deep.RegionHeld3
import Derived.Deep.DeepCutAuto
import Derived.Deep.CutBlock
import Derived.Test.YtjpchjbpolcndaaDoorFault
namespace Go.Proofs.YtjpchjbpolcndaaDoor
open Go.RowKit

structure Sents2 (w : World) (A : Nat → Addr) : Prop where
  c1 : w.cell? ⟨1, 0, none⟩ = some (.iface 166 (.pointer (some (A 1))))
  c3 : w.cell? ⟨0, 0, none⟩ = some (.iface 166 (.pointer (some (A 3))))
theorem Sents3.two {w : World} {A : Nat → Addr} (h : Sents3 w A) : Sents2 w A := ⟨h.c1, h.c3⟩
theorem Sents.two {w : World} {A : Nat → Addr} (h : Sents w A) : Sents2 w A := ⟨h.c1, h.c3⟩
theorem Sents2.keep {w w' : World} {A : Nat → Addr} (h : Sents2 w A) (hb : Below w.heap.size w w') : Sents2 w' A := by
  have k : ∀ g v, w.cell? ⟨g, 0, none⟩ = some v → w'.cell? ⟨g, 0, none⟩ = some v := fun g v e => (hb.cell (p := ⟨g, 0, none⟩) (World.block_lt_of_cell? w _ e)).trans e
  exact ⟨k _ _ h.c1, k _ _ h.c3⟩
def sentL2 : List (String × List UInt8) := [("skolem/api.ErrLimit", [109, 111, 114, 101, 32, 116, 104, 97, 110, 32, 109, 97, 121, 32, 98, 101]), ("skolem/api.ErrRange", [97, 32, 110, 117, 109, 98, 101, 114, 32, 111, 117, 116, 32, 111, 102, 32, 105, 116, 115, 32, 114, 97, 110, 103, 101])]
theorem gty2 : ((sentL2.map fun x => (Tryd.prog.globalNamed x.1).bind fun g => (Tryd.prog.globals[g]?).map (·.type)).all fun t => t == some 35) = true := by kernel_rfl
/-- What the row's condition on the two listed variables says. -/
theorem sents2_met {W : World} (h : laidMet Tryd.prog (sentL2.map sentD) W) : ∃ A, Sents2 W A := by
  obtain ⟨ps, hl, hnd, hrows⟩ := h
  obtain ⟨gs, hlen, rfl, hg⟩ := sents_of Tryd.underlying35 rowES Tryd.underlying166 Tryd.underlying183 rfl rfl Tryd.underlying9 (by kernel_rfl) (by kernel_rfl) sentL2 ps hl
    (fun x hx g hg => by
      have := List.all_eq_true.1 gty2 _ (List.mem_map_of_mem hx)
      simpa [hg] using this) hrows
  obtain ⟨g1, a1, _, n1, k1, _⟩ := hg 0 (by decide)
  obtain ⟨g3, a3, _, n3, k3, _⟩ := hg 1 (by decide)
  obtain rfl := Option.some.inj (gs1.symm.trans n1)
  obtain rfl := Option.some.inj (gs3.symm.trans n3)
  exact ⟨fun i => if i = 1 then a1 else a3, by simpa using k1, by simpa using k3⟩
end Go.Proofs.YtjpchjbpolcndaaDoor

namespace Go.Proofs.YtjpchjbpolcndaaDoor
open Go.RowKit

theorem plc_ren {xs : List Int} {l : Int} (h : okP xs l = true) : renP xs l ≠ 0 ∧ plc (renP xs l) ≤ xs.length := by
  have h1 := of_decide_eq_true h
  have h2 : posOf xs (absI l) = xs.idxOf (absI l) + 1 := by unfold posOf; rw [if_pos h1.1]
  have h3 := List.idxOf_lt_length_of_mem h1.1
  unfold renP
  generalize posOf xs (absI l) = p at *
  by_cases hl : l < 0
  · rw [if_pos hl]
    have h4 := plc_neg (l := -(p : Int)) (by omega)
    omega
  · rw [if_neg hl]
    have h4 := plc_pos (l := (p : Int)) (by omega)
    omega
theorem ren_right {xs : List Int} {xss : List (List Int)} (h : okM xs xss = true) : ∀ c ∈ renM xs xss, ∀ l ∈ c, l ≠ 0 ∧ plc l ≤ xs.length := fun c hc l hl => by
  unfold renM at hc
  obtain ⟨d, hd, rfl⟩ := List.mem_map.1 hc
  obtain ⟨y, hy, rfl⟩ := List.mem_map.1 hl
  unfold okM at h
  rw [List.all_eq_true] at h
  have := h d hd
  rw [List.all_eq_true] at this
  exact plc_ren (this y hy)
theorem inW_plc {m : List (List Int)} {n : Nat} (hn : n ≤ 1000000) (h : ∀ c ∈ m, ∀ l ∈ c, l ≠ 0 ∧ plc l ≤ n) : ∀ c ∈ m, InW c := fun c hc l hl => by
  have h1 := (h c hc l hl).2
  have h2 := plc_absI l
  unfold absI at h2
  split at h2 <;> omega
/-- The table's worth: that of the clauses. -/
theorem win_table {m : List (List Int)} {ds : List Mk} {ex : Bool} {no ni o : Nat} (ho : o < 2 ^ no) (hs : no + ni ≤ 20) (h : ∀ c ∈ m, ∀ l ∈ c, l ≠ 0 ∧ plc l ≤ no + ni) (hd : ∀ x, x ∈ ds ↔ x ∈ restL [] m) : winD ds ex no ni o = winsB m ex (bitsN o no) ni := by
  unfold winD winsB
  congr 1
  funext i
  have h1 : holdD ds (i * 2 ^ no + o) = ofL m (false :: (bitsN o no ++ bitsN i ni)) := by
    unfold holdD
    rw [all_same hd]
    have h2 := rest_hold [] m (i * 2 ^ no + o) (no + ni) (by omega) (fun c hc l hl => by simpa using h c hc l hl)
    rw [h2, List.nil_append, bitsN_join i o no ni ho]
  rw [h1]
theorem win_one {m : List (List Int)} {ds : List Mk} {ex : Bool} {kn : List Bool} {ni : Nat} (hs : ni ≤ 20) (h : ∀ c ∈ m, ∀ l ∈ c, l ≠ 0 ∧ plc l ≤ kn.length + ni) (hd : ∀ x, x ∈ ds ↔ x ∈ restL kn m) : winD ds ex 0 ni 0 = winsB m ex kn ni := by
  unfold winD winsB
  congr 1
  funext i
  have h1 : holdD ds (i * 2 ^ 0 + 0) = ofL m (false :: (kn ++ bitsN i ni)) := by
    unfold holdD
    rw [all_same hd]
    have h2 := rest_hold kn m (i * 2 ^ 0 + 0) ni (by omega) h
    rw [h2]
    simp
  rw [h1]
theorem value_yes {m : List (List Int)} {ex : Bool} {no ni o : Nat} (ho : o < 2 ^ no) (h : winsB m ex (bitsN o no) ni = true) : valueB m ex no ni = ex := by
  unfold valueB
  rw [if_pos (List.any_eq_true.2 ⟨o, List.mem_range.2 ho, h⟩)]
theorem value_no {m : List (List Int)} {ex : Bool} {no ni : Nat} (h : ∀ o, o < 2 ^ no → winsB m ex (bitsN o no) ni = false) : valueB m ex no ni = !ex := by
  unfold valueB
  rw [if_neg (fun hh => by
    obtain ⟨o, ho, h1⟩ := List.any_eq_true.1 hh
    rw [h o (List.mem_range.1 ho)] at h1
    cases h1)]

set_option maxRecDepth 8000 in
set_option maxHeartbeats 2000000 in
theorem value_bad (A : Nat → Addr) (ex : Bool) (vo vi : Value) (ol il : List Int) (a : Option Addr) (c : Nat) (xss : List (List Int)) (w : World) (hS : Sents2 w A) (ho : Row w vo ol) (hi : Row w vi il) (hr : RowsAt w a c xss) (hn : ol.length + il.length ≤ 1000000) (hb : ∀ v ∈ ol ++ il, -9223372036854775808 ≤ v ∧ v ≤ 9223372036854775807)
    (hint : ∀ xs ∈ xss, ∀ l ∈ xs, -9223372036854775807 ≤ l ∧ l ≤ 9223372036854775807) (hlen : ∀ xs ∈ xss, xs.length ≤ 1000000) (hm : xss.length ≤ 1000000) (hok : okM (ol ++ il) xss = false ∨ 20 < ol.length + il.length) :
    Calls Tryd.prog 13 #[.agg #[.bool ex, vo, vi, .slice a xss.length c]] w fun e w' => e = .returned (.tuple #[.bool false, sentV A (if okM (ol ++ il) xss then 1 else 3)]) ∧ Below w.heap.size w w' := by
  have HM := Lib.hid (fun W (hW : Below w.heap.size w W) => matrix_any ex vo vi ol il a c xss W (ho.keep hW) (hi.keep hW) (hr.keep hW) hn hb hint hlen hm)
  have HSK := Lib.hid (fun W (hW : Below w.heap.size w W) => hS.keep hW)
  have HCX : Hid (∀ W, Below (w.alloc (.cells #[.bool ex, vo, vi, .slice a xss.length c] 26)).heap.size (w.alloc (.cells #[.bool ex, vo, vi, .slice a xss.length c] 26)) W → (W.cell? ⟨w.heap.size, 0, none⟩ = some (.bool ex) ∧ W.cell? ⟨w.heap.size, 1, none⟩ = some vo ∧ W.cell? ⟨w.heap.size, 2, none⟩ = some vi ∧ W.cell? ⟨w.heap.size, 3, none⟩ = some (.slice a xss.length c)) ∧ Below w.heap.size w W) := fun W h =>
    ⟨(cells4 w W _ _ _ _ 26 h).1, ((Below.refl _ w).alloc (Nat.le_refl _) _).trans (h.mono (by simp))⟩
  obtain ⟨ao, co, rfl, _⟩ := ho
  obtain ⟨ai, ci, rfl, _⟩ := hi
  clear hr hb hint hlen hS
  have HA := Lib.hid (fun o => show Below w.heap.size w (w.alloc o) from (Below.refl _ w).alloc (Nat.le_refl _) _)
  unfold sentV
  generalize hx : okM (ol ++ il) xss = x at *
  cases x with
  | false =>
    rw [if_neg (by simp)]
    have HC3 : Hid (∀ W, Below w.heap.size w W → W.cell? ⟨0, 0, none⟩ = some (.iface 166 (.pointer (some (A 3))))) := fun W hW => (HSK.out W hW).c3
    generalize A 3 = q3 at *
    clear HSK
    generalize ol.length = no at *
    generalize il.length = ni at *
    generalize xss.length = nx at *
    go_enter Tryd.func13, Tryd.ntmps13
    go_wp2_with (go_at_call 42; refine (HM.out _ (HA.out _)).mono ?_; rintro e w1 ⟨⟨u, rfl, hu, _⟩, hb1⟩; obtain ⟨_, hbw1⟩ := HCX.out _ hb1; obtain rfl := hu rfl; have s3 := HC3.out w1 hbw1)
    have HBW := Lib.hid hbw1
    clear hb1 hbw1
    go_quiet (fail)
    go_wp2_with fail
    go_ret2
    exact ⟨rfl, by first | exact HBW.out | exact HBW.out.drew | exact below_drewN HBW.out _⟩
  | true =>
    have h20 : 20 < ol.length + il.length := hok.resolve_left (by simp)
    rw [if_pos rfl]
    have HC1 : Hid (∀ W, Below w.heap.size w W → W.cell? ⟨1, 0, none⟩ = some (.iface 166 (.pointer (some (A 1))))) := fun W hW => (HSK.out W hW).c1
    generalize A 1 = q1 at *
    clear HSK hok
    generalize ol.length = no at *
    generalize il.length = ni at *
    generalize xss.length = nx at *
    have hd1 : decide ((20 : Int) < (no : Int) + (ni : Int)) = true := decide_eq_true (by omega)
    go_enter Tryd.func13, Tryd.ntmps13
    go_wp2_with (go_at_call 42; refine (HM.out _ (HA.out _)).mono ?_; rintro e w1 ⟨⟨u, rfl, _, hu⟩, hb1⟩; obtain ⟨⟨g0, g1, g2, g3⟩, hbw1⟩ := HCX.out _ hb1; obtain ⟨au, cu, rfl, _⟩ := (hu rfl).rows; have s1 := HC1.out w1 hbw1)
    have HBW := Lib.hid hbw1
    clear hb1 hbw1 hu
    go_quiet (fail)
    go_wp2_with fail
    go_ret2
    exact ⟨rfl, by first | exact HBW.out | exact HBW.out.drew | exact below_drewN HBW.out _⟩
end Go.Proofs.YtjpchjbpolcndaaDoor

namespace Go.Proofs.YtjpchjbpolcndaaDoor
open Go.RowKit

set_option maxRecDepth 8000 in
set_option maxHeartbeats 4000000 in
theorem value_ok (ex : Bool) (vo vi : Value) (ol il : List Int) (a : Option Addr) (c : Nat) (xss : List (List Int)) (w : World) (ho : Row w vo ol) (hi : Row w vi il) (hr : RowsAt w a c xss) (hb : ∀ v ∈ ol ++ il, -9223372036854775808 ≤ v ∧ v ≤ 9223372036854775807)
    (hint : ∀ xs ∈ xss, ∀ l ∈ xs, -9223372036854775807 ≤ l ∧ l ≤ 9223372036854775807) (hlen : ∀ xs ∈ xss, xs.length ≤ 1000000) (hm : xss.length ≤ 1000000) (hok : okM (ol ++ il) xss = true) (h20 : ol.length + il.length ≤ 20) :
    Calls Tryd.prog 13 #[.agg #[.bool ex, vo, vi, .slice a xss.length c]] w fun e w' => e = .returned (.tuple #[.bool (valueB (renM (ol ++ il) xss) ex ol.length il.length), .nilIface]) ∧ Below w.heap.size w w' := by
  have HM := Lib.hid (fun W (hW : Below w.heap.size w W) => matrix_any ex vo vi ol il a c xss W (ho.keep hW) (hi.keep hW) (hr.keep hW) (by omega) hb hint hlen hm)
  have HCX : Hid (∀ W, Below (w.alloc (.cells #[.bool ex, vo, vi, .slice a xss.length c] 26)).heap.size (w.alloc (.cells #[.bool ex, vo, vi, .slice a xss.length c] 26)) W → (W.cell? ⟨w.heap.size, 0, none⟩ = some (.bool ex) ∧ W.cell? ⟨w.heap.size, 1, none⟩ = some vo ∧ W.cell? ⟨w.heap.size, 2, none⟩ = some vi ∧ W.cell? ⟨w.heap.size, 3, none⟩ = some (.slice a xss.length c)) ∧ Below w.heap.size w W) := fun W h =>
    ⟨(cells4 w W _ _ _ _ 26 h).1, ((Below.refl _ w).alloc (Nat.le_refl _) _).trans (h.mono (by simp))⟩
  have hright : ∀ c ∈ renM (ol ++ il) xss, ∀ l ∈ c, l ≠ 0 ∧ plc l ≤ ol.length + il.length := fun c hc l hl => by
    have := ren_right hok c hc l hl
    rwa [List.length_append] at this
  have HRI := Lib.hid hright
  have hml : (renM (ol ++ il) xss).length = xss.length := by unfold renM; simp
  have HRS := Lib.hid (fun W au cu (hr : RowsAt W au cu (renM (ol ++ il) xss)) => rest_any au cu (renM (ol ++ il) xss) (.slice none 0 0) [] W hr (RowG.nil _ _ _) (inW_plc (by omega) hright) (by simp) (fun c hc l hl => by have := (hright c hc l hl).2; simp; omega) (by omega))
  obtain ⟨ao, co, rfl, _⟩ := ho
  obtain ⟨ai, ci, rfl, _⟩ := hi
  clear hr hb hint hlen hright
  have HA := Lib.hid (fun o => show Below w.heap.size w (w.alloc o) from (Below.refl _ w).alloc (Nat.le_refl _) _)
  generalize hx : okM (ol ++ il) xss = x at *
  subst hok
  clear hx
  have HYS := Lib.hid (fun o (h1 : o < 2 ^ ol.length) h => @value_yes (renM (ol ++ il) xss) ex ol.length il.length o h1 h)
  have HNN := Lib.hid (fun h => @value_no (renM (ol ++ il) xss) ex ol.length il.length h)
  generalize valueB (renM (ol ++ il) xss) ex ol.length il.length = r at *
  generalize renM (ol ++ il) xss = ms at *
  have HML := Lib.hid hml
  clear hml
  generalize xss.length = nx at *
  generalize ol.length = no at *
  generalize il.length = ni at *
  have hd1 : decide ((20 : Int) < (no : Int) + (ni : Int)) = false := decide_eq_false (by omega)
  have HWT := Lib.hid (fun W al cl (ds : List Mk) o (hv : RowM W (.slice al ds.length cl) ds) (h1 : o < 2 ^ no) => tabWins_any al cl ds ex no ni o W hv h1 h20)
  have HTB := Lib.hid (fun ds o (h1 : o < 2 ^ no) hd => @win_table ms ds ex no ni o h1 h20 HRI.out hd)
  go_enter Tryd.func13, Tryd.ntmps13
  go_upto_region 6 with (go_at_call 42; refine (HM.out _ (HA.out _)).mono ?_; rintro e w1 ⟨⟨u, rfl, _, hu⟩, hb1⟩; obtain ⟨⟨g0, g1, g2, g3⟩, hbw1⟩ := HCX.out _ hb1; obtain ⟨au, cu, rfl, hru⟩ := (hu rfl).rows)
  have HRW := Lib.hid hru
  have HBG := Lib.hid hb1
  have HBW := Lib.hid hbw1
  have hs1 := hb1.size
  clear hu hru hb1 hbw1
  have HKP : Hid (∀ W, Below (w.alloc (.cells #[.bool ex, .slice ao no co, .slice ai ni ci, .slice a nx c] 26)).heap.size (w.alloc (.cells #[.bool ex, .slice ao no co, .slice ai ni ci, .slice a nx c] 26)) W → W.cell? ⟨w.heap.size, 0, none⟩ = some (.bool ex) ∧ W.cell? ⟨w.heap.size, 1, none⟩ = some (.slice ao no co) ∧ W.cell? ⟨w.heap.size, 2, none⟩ = some (.slice ai ni ci)) := fun W h => ⟨(HCX.out W h).1.1, (HCX.out W h).1.2.1, (HCX.out W h).1.2.2.1⟩
  have HZT : Hid (∀ W, Below (w1.heap.size + 1) (w1.drew.alloc (.cells #[.slice none 0 0, .bool false, .int .i64 0, .int .i64 0] 84)) W → (W.cell? ⟨w1.heap.size, 0, none⟩ = some (.slice none 0 0) ∧ W.cell? ⟨w1.heap.size, 1, none⟩ = some (.bool false) ∧ W.cell? ⟨w1.heap.size, 2, none⟩ = some (.int .i64 0) ∧ W.cell? ⟨w1.heap.size, 3, none⟩ = some (.int .i64 0)) ∧ ∀ j, W.frozen? ⟨w1.heap.size, j, none⟩ = false) := fun W h => cells4 w1.drew W _ _ _ _ 84 (by simpa using h)
  go_cut [6] (fun t wx => ∃ q al cl, ∃ ds : List Mk, t = .pointer (some ⟨q, 0, none⟩) ∧ RowM wx (.slice al ds.length cl) ds ∧ Hid (∀ x, x ∈ ds ↔ x ∈ restL [] ms) ∧ (wx.cell? ⟨q, 0, none⟩ = some (.slice al ds.length cl) ∧ wx.cell? ⟨q, 1, none⟩ = some (.bool ex) ∧ wx.cell? ⟨q, 2, none⟩ = some (.int .i64 (no : Int)) ∧ wx.cell? ⟨q, 3, none⟩ = some (.int .i64 (ni : Int))) ∧ Below (w.heap.size + 1) (w.alloc (.cells #[.bool ex, .slice ao no co, .slice ai ni ci, .slice a nx c] 26)) wx)
  case first =>
    go_region_held3 (fun W => W.cell? ⟨w.heap.size, 0, none⟩ = some (.bool ex) ∧ W.cell? ⟨w.heap.size, 1, none⟩ = some (.slice ao no co) ∧ W.cell? ⟨w.heap.size, 2, none⟩ = some (.slice ai ni ci)) (first | exact HKP.out _ HBG.out | exact HKP.out _ HBG.out.drew | exact HKP.out _ (below_drewN HBG.out _) | exact HKP.out _ (HBG.out.drew.alloc hs1 _) | exact HKP.out _ (HBG.out.alloc hs1 _) | exact HKP.out _ hb3 | exact HKP.out _ (hb3.alloc hs3 _) | exact HKP.out _ (((hb3.setCell (by simpa using hs1) _).setCell (by simpa using hs1) _).setCell (by simpa using hs1) _ |>.setCell (by simpa using hs1) _)) (first
      | (go_at_call 46; refine (HRS.out _ _ _ (HRW.out.keep (Below.refl _ _).drew)).mono ?_; rintro e w2 ⟨⟨cv, ds, rfl, hcv, hnw, hds⟩, hw2⟩; have HCV := Lib.hid (And.intro hcv hnw); clear hnw; obtain ⟨al, cl, rfl, _⟩ := hcv; have hb3 := HBG.out.drew.trans (hw2.mono (by simpa using hs1)); have hs3 := hb3.size)
      | (go_at_call 46; refine (HRS.out _ _ _ (HRW.out.keep ((Below.refl _ _).drew.alloc (Nat.le_refl _) _))).mono ?_; rintro e w2 ⟨⟨cv, ds, rfl, hcv, hnw, hds⟩, hw2⟩; have HCV := Lib.hid (And.intro hcv hnw); clear hnw; obtain ⟨al, cl, rfl, _⟩ := hcv; have hb3 := (HBG.out.drew.alloc hs1 _).trans (hw2.mono (by have := hs1; simp at this ⊢; omega)); have hs3 := hb3.size; obtain ⟨⟨z0, z1, z2, z3⟩, zf⟩ := HZT.out _ (by simpa using hw2); have zf0 := zf 0; have zf1 := zf 1; have zf2 := zf 2; have zf3 := zf 3))
    all_goals go_wp2_with fail
    all_goals go_meet
    · have hA := cells4 w2 _ _ _ _ _ 84 (Below.refl (w2.alloc (.cells #[.slice al ds.length cl, .bool ex, .int .i64 (no : Int), .int .i64 (ni : Int)] 84)).heap.size _)
      exact ⟨w2.heap.size, al, cl, ds, rfl, HCV.out.1.keep ((Below.refl _ _).alloc (Nat.le_refl _) _), hds, hA.1, by simpa using hb3.alloc hs3 _⟩
    · have hB := sets4_same z0 z1 z2 z3 (.slice al ds.length cl) (.bool ex) (.int .i64 (no : Int)) (.int .i64 (ni : Int))
      refine ⟨w1.heap.size, al, cl, ds, rfl, (((HCV.out.1.set HCV.out.2 _ _ _ (by simp)).set HCV.out.2 _ _ _ (by simp)).set HCV.out.2 _ _ _ (by simp)).set HCV.out.2 _ _ _ (by simp), hds, hB, ?_⟩
      have := sets4_below (v0 := .slice al ds.length cl) (v1 := .bool ex) (v2 := .int .i64 (no : Int)) (v3 := .int .i64 (ni : Int)) hb3 (q := w1.heap.size) (by simpa using hs1)
      simpa [sets4] using this
  case rest =>
    obtain ⟨q, al, cl, ds, rfl, hrm, HDS, ⟨t0, t1, t2, t3⟩, hbg⟩ := hcut
    clear g0 g1 g2 g3 hs1 HBG HBW HRW HZT HKP HM HRS HRI
    have hbg2 : Below (w.alloc (.cells #[.bool ex, .slice ao no co, .slice ai ni ci, .slice a nx c] 26)).heap.size (w.alloc (.cells #[.bool ex, .slice ao no co, .slice ai ni ci, .slice a nx c] 26)) wc := by simpa using hbg
    obtain ⟨⟨g0, _, _, _⟩, hbw⟩ := HCX.out _ hbg2
    have HRM := Lib.hid hrm
    have HBW := Lib.hid hbw
    have hq := World.block_lt_of_cell? wc _ t0
    have hgl := World.block_lt_of_cell? wc _ g0
    simp only at hq hgl
    clear hrm hbg hbg2 hbw HCX
    have hpi := pow_wrap no (by omega)
    have hpb := pow20 (show no ≤ 20 by omega)
    generalize hT : 2 ^ no = T at *
    clear hT
    go_wp2_with fail
    rw [hpi]
    clear hpi
    go_loopw [7, 39] (fun _ i wr => ∃ k : Nat, k ≤ T ∧ i = .int .i64 k ∧ Below wc.heap.size wc wr ∧ Hid (∀ j, j < k → winsB ms ex (bitsN j no) ni = false)) (fun _ i _ => T - (intOf i).toNat)
    case atStart => exact ⟨0, Nat.zero_le _, rfl, Below.refl _ _, fun j hj => absurd hj (Nat.not_lt_zero _)⟩
    case round =>
      obtain ⟨k, hk, rfl, hbr, HQ⟩ := hrel
      have t0' := (hbr.cell (p := ⟨q, 0, none⟩) hq).trans t0
      have t1' := (hbr.cell (p := ⟨q, 1, none⟩) hq).trans t1
      have t2' := (hbr.cell (p := ⟨q, 2, none⟩) hq).trans t2
      have t3' := (hbr.cell (p := ⟨q, 3, none⟩) hq).trans t3
      have g0' := (hbr.cell (p := ⟨w.heap.size, 0, none⟩) hgl).trans g0
      clear t0 t1 t2 t3
      have HBR := Lib.hid hbr
      have HBRS := Lib.hid hbr.size
      by_cases hlt : k < T
      · have HWK := Lib.hid (HWT.out wr al cl ds k (HRM.out.keep hbr) hlt)
        rw [HTB.out ds k hlt HDS.out] at HWK
        have HYK := Lib.hid (HYS.out k hlt)
        have HQ1 : Hid (winsB ms ex (bitsN k no) ni = false → ∀ j, j < k + 1 → winsB ms ex (bitsN j no) ni = false) := fun h j hj => by
          by_cases e : j = k
          · subst e; exact h
          · exact HQ.out j (by omega)
        clear hbr HYS
        generalize winsB ms ex (bitsN k no) ni = t at *
        generalize ds.length = nd at *
        cases t with
        | true =>
          have HF := Lib.hid (HYK.out rfl)
          clear HYK HQ1
          go_wp2_with (go_at_call 47; refine HWK.out.mono ?_; rintro e w3 ⟨rfl, hw3⟩; have g03 := (hw3.cell (p := ⟨w.heap.size, 0, none⟩) (Nat.lt_of_lt_of_le hgl HBRS.out)).trans g0')
          go_ret2
          exact ⟨by rw [HF.out]; rfl, HBW.out.trans ((HBR.out.trans (hw3.mono HBRS.out)).mono (by have := HBW.out.size; exact this))⟩
        | false =>
          have HQ2 := Lib.hid (HQ1.out rfl)
          clear HYK HQ1
          go_wp2_with (go_at_call 47; refine HWK.out.mono ?_; rintro e w3 ⟨rfl, hw3⟩)
          go_roundw
          case rel => exact ⟨k + 1, by omega, by go_num, HBR.out.trans (hw3.mono HBRS.out), HQ2.out⟩
          case measure => simp [intOf]; omega
      · have hkT : k = T := by omega
        subst hkT
        have HF := Lib.hid (HNN.out HQ.out)
        clear hbr hlt HQ HYS HNN
        go_wp2_with fail
        go_ret2
        exact ⟨by rw [HF.out]; rfl, HBW.out.trans (HBR.out.mono (by have := HBW.out.size; exact this))⟩
end Go.Proofs.YtjpchjbpolcndaaDoor

namespace Go.Proofs.YtjpchjbpolcndaaDoor
open Go.RowKit

set_option maxRecDepth 8000 in
set_option maxHeartbeats 2000000 in
theorem wins_ok (ex : Bool) (vo vi : Value) (ol il : List Int) (a : Option Addr) (c : Nat) (xss : List (List Int)) (kv : Value) (kn : List Bool) (w : World) (ho : Row w vo ol) (hi : Row w vi il) (hr : RowsAt w a c xss) (hk : BoolRow w kv kn) (hb : ∀ v ∈ ol ++ il, -9223372036854775808 ≤ v ∧ v ≤ 9223372036854775807)
    (hint : ∀ xs ∈ xss, ∀ l ∈ xs, -9223372036854775807 ≤ l ∧ l ≤ 9223372036854775807) (hlen : ∀ xs ∈ xss, xs.length ≤ 1000000) (hm : xss.length ≤ 1000000) (hok : okM (ol ++ il) xss = true) (hkn : kn.length = ol.length) (hn : ol.length ≤ 900000) (h20 : il.length ≤ 20) :
    Calls Tryd.prog 15 #[.agg #[.bool ex, vo, vi, .slice a xss.length c], kv] w fun e w' => e = .returned (.tuple #[.bool (winsB (renM (ol ++ il) xss) ex kn il.length), .nilIface]) ∧ Below w.heap.size w w' := by
  have HM := Lib.hid (fun W (hW : Below w.heap.size w W) => matrix_any ex vo vi ol il a c xss W (ho.keep hW) (hi.keep hW) (hr.keep hW) (by omega) hb hint hlen hm)
  have HCX : Hid (∀ W, Below (w.alloc (.cells #[.bool ex, vo, vi, .slice a xss.length c] 26)).heap.size (w.alloc (.cells #[.bool ex, vo, vi, .slice a xss.length c] 26)) W → (W.cell? ⟨w.heap.size, 0, none⟩ = some (.bool ex) ∧ W.cell? ⟨w.heap.size, 1, none⟩ = some vo ∧ W.cell? ⟨w.heap.size, 2, none⟩ = some vi ∧ W.cell? ⟨w.heap.size, 3, none⟩ = some (.slice a xss.length c)) ∧ Below w.heap.size w W) := fun W h =>
    ⟨(cells4 w W _ _ _ _ 26 h).1, ((Below.refl _ w).alloc (Nat.le_refl _) _).trans (h.mono (by simp))⟩
  have hright : ∀ c ∈ renM (ol ++ il) xss, ∀ l ∈ c, l ≠ 0 ∧ plc l ≤ ol.length + il.length := fun c hc l hl => by
    have := ren_right hok c hc l hl
    rwa [List.length_append] at this
  have HRI := Lib.hid hright
  have hml : (renM (ol ++ il) xss).length = xss.length := by unfold renM; simp
  have HRS := Lib.hid (fun W au cu (hr : RowsAt W au cu (renM (ol ++ il) xss)) (hkw : BoolRow W kv kn) => rest_any au cu (renM (ol ++ il) xss) kv kn W hr hkw (inW_plc (by omega) hright) (by omega) (fun c hc l hl => by have := (hright c hc l hl).2; omega) (by omega))
  obtain ⟨ao, co, rfl, _⟩ := ho
  obtain ⟨ai, ci, rfl, _⟩ := hi
  have HKW := Lib.hid (fun W (hW : Below w.heap.size w W) => (RowG.keep hk hW : BoolRow W kv kn))
  obtain ⟨ak, ck, rfl, _⟩ := hk
  clear hr hb hint hlen hright
  have HA := Lib.hid (fun o => show Below w.heap.size w (w.alloc o) from (Below.refl _ w).alloc (Nat.le_refl _) _)
  generalize hx : okM (ol ++ il) xss = x at *
  subst hok
  clear hx
  generalize renM (ol ++ il) xss = ms at *
  have HML := Lib.hid hml
  clear hml
  generalize xss.length = nx at *
  generalize ol.length = no at *
  generalize il.length = ni at *
  have hd1 : decide ((20 : Int) < (ni : Int)) = false := decide_eq_false (by omega)
  have hd2 : decide (20 < ni) = false := decide_eq_false (by omega)
  have HWT := Lib.hid (fun W al cl (ds : List Mk) (hv : RowM W (.slice al ds.length cl) ds) => tabWins_any al cl ds ex 0 ni 0 W hv (by simp) (by omega))
  have HTB := Lib.hid (fun ds hd => @win_one ms ds ex kn ni h20 (by rw [hkn]; exact HRI.out) hd)
  generalize kn.length = nk at *
  subst hkn
  have hkb : ((nk : Int) != (nk : Int)) = false := by simp
  go_enter Tryd.func15, Tryd.ntmps15
  go_upto_region 6 with (go_at_call 42; refine (HM.out _ (HA.out _)).mono ?_; rintro e w1 ⟨⟨u, rfl, _, hu⟩, hb1⟩; obtain ⟨⟨g0, g1, g2, g3⟩, hbw1⟩ := HCX.out _ hb1; obtain ⟨au, cu, rfl, hru⟩ := (hu rfl).rows)
  have HRW := Lib.hid hru
  have HBG := Lib.hid hb1
  have HBW := Lib.hid hbw1
  have hs1 := hb1.size
  clear hu hru hb1 hbw1
  have HKP : Hid (∀ W, Below (w.alloc (.cells #[.bool ex, .slice ao nk co, .slice ai ni ci, .slice a nx c] 26)).heap.size (w.alloc (.cells #[.bool ex, .slice ao nk co, .slice ai ni ci, .slice a nx c] 26)) W → W.cell? ⟨w.heap.size, 0, none⟩ = some (.bool ex) ∧ W.cell? ⟨w.heap.size, 1, none⟩ = some (.slice ao nk co) ∧ W.cell? ⟨w.heap.size, 2, none⟩ = some (.slice ai ni ci)) := fun W h => ⟨(HCX.out W h).1.1, (HCX.out W h).1.2.1, (HCX.out W h).1.2.2.1⟩
  have HZT : Hid (∀ W, Below (w1.heap.size + 1) (w1.drew.alloc (.cells #[.slice none 0 0, .bool false, .int .i64 0, .int .i64 0] 84)) W → (W.cell? ⟨w1.heap.size, 0, none⟩ = some (.slice none 0 0) ∧ W.cell? ⟨w1.heap.size, 1, none⟩ = some (.bool false) ∧ W.cell? ⟨w1.heap.size, 2, none⟩ = some (.int .i64 0) ∧ W.cell? ⟨w1.heap.size, 3, none⟩ = some (.int .i64 0)) ∧ ∀ j, W.frozen? ⟨w1.heap.size, j, none⟩ = false) := fun W h => cells4 w1.drew W _ _ _ _ 84 (by simpa using h)
  go_cut [8] (fun t wx => ∃ q al cl, ∃ ds : List Mk, t = .pointer (some ⟨q, 0, none⟩) ∧ RowM wx (.slice al ds.length cl) ds ∧ Hid (∀ x, x ∈ ds ↔ x ∈ restL kn ms) ∧ (wx.cell? ⟨q, 0, none⟩ = some (.slice al ds.length cl) ∧ wx.cell? ⟨q, 1, none⟩ = some (.bool ex) ∧ wx.cell? ⟨q, 2, none⟩ = some (.int .i64 0) ∧ wx.cell? ⟨q, 3, none⟩ = some (.int .i64 (ni : Int))) ∧ Below (w.heap.size + 1) (w.alloc (.cells #[.bool ex, .slice ao nk co, .slice ai ni ci, .slice a nx c] 26)) wx)
  case first =>
    go_region_held3 (fun W => W.cell? ⟨w.heap.size, 0, none⟩ = some (.bool ex) ∧ W.cell? ⟨w.heap.size, 1, none⟩ = some (.slice ao nk co) ∧ W.cell? ⟨w.heap.size, 2, none⟩ = some (.slice ai ni ci)) (first | exact HKP.out _ HBG.out | exact HKP.out _ HBG.out.drew | exact HKP.out _ (below_drewN HBG.out _) | exact HKP.out _ (HBG.out.drew.alloc hs1 _) | exact HKP.out _ (HBG.out.alloc hs1 _) | exact HKP.out _ hb3 | exact HKP.out _ (hb3.alloc hs3 _) | exact HKP.out _ (((hb3.setCell (by simpa using hs1) _).setCell (by simpa using hs1) _).setCell (by simpa using hs1) _ |>.setCell (by simpa using hs1) _)) (first
      | (go_at_call 46; refine (HRS.out _ _ _ (HRW.out.keep (Below.refl _ _).drew) (HKW.out _ (HBW.out.drew))).mono ?_; rintro e w2 ⟨⟨cv, ds, rfl, hcv, hnw, hds⟩, hw2⟩; have HCV := Lib.hid (And.intro hcv hnw); clear hnw; obtain ⟨al, cl, rfl, _⟩ := hcv; have hb3 := HBG.out.drew.trans (hw2.mono (by simpa using hs1)); have hs3 := hb3.size)
      | (go_at_call 46; refine (HRS.out _ _ _ (HRW.out.keep ((Below.refl _ _).drew.alloc (Nat.le_refl _) _)) (HKW.out _ (HBW.out.drew.alloc HBW.out.size _))).mono ?_; rintro e w2 ⟨⟨cv, ds, rfl, hcv, hnw, hds⟩, hw2⟩; have HCV := Lib.hid (And.intro hcv hnw); clear hnw; obtain ⟨al, cl, rfl, _⟩ := hcv; have hb3 := (HBG.out.drew.alloc hs1 _).trans (hw2.mono (by have := hs1; simp at this ⊢; omega)); have hs3 := hb3.size; obtain ⟨⟨z0, z1, z2, z3⟩, zf⟩ := HZT.out _ (by simpa using hw2); have zf0 := zf 0; have zf1 := zf 1; have zf2 := zf 2; have zf3 := zf 3))
    all_goals go_wp2_with fail
    all_goals go_meet
    · have hA := cells4 w2 _ _ _ _ _ 84 (Below.refl (w2.alloc (.cells #[.slice al ds.length cl, .bool ex, .int .i64 0, .int .i64 (ni : Int)] 84)).heap.size _)
      exact ⟨w2.heap.size, al, cl, ds, rfl, HCV.out.1.keep ((Below.refl _ _).alloc (Nat.le_refl _) _), hds, hA.1, by simpa using hb3.alloc hs3 _⟩
    · have hB := sets4_same z0 z1 z2 z3 (.slice al ds.length cl) (.bool ex) (.int .i64 0) (.int .i64 (ni : Int))
      refine ⟨w1.heap.size, al, cl, ds, rfl, (((HCV.out.1.set HCV.out.2 _ _ _ (by simp)).set HCV.out.2 _ _ _ (by simp)).set HCV.out.2 _ _ _ (by simp)).set HCV.out.2 _ _ _ (by simp), hds, hB, ?_⟩
      have := sets4_below (v0 := .slice al ds.length cl) (v1 := .bool ex) (v2 := .int .i64 0) (v3 := .int .i64 (ni : Int)) hb3 (q := w1.heap.size) (by simpa using hs1)
      simpa [sets4] using this
  case rest =>
    obtain ⟨q, al, cl, ds, rfl, hrm, HDS, ⟨t0, t1, t2, t3⟩, hbg⟩ := hcut
    clear g0 g1 g2 g3 hs1 HBG HBW HRW HZT HKP HM HRS HRI
    have hbg2 : Below (w.alloc (.cells #[.bool ex, .slice ao nk co, .slice ai ni ci, .slice a nx c] 26)).heap.size (w.alloc (.cells #[.bool ex, .slice ao nk co, .slice ai ni ci, .slice a nx c] 26)) wc := by simpa using hbg
    obtain ⟨_, hbw⟩ := HCX.out _ hbg2
    have HWK := Lib.hid (HWT.out wc al cl ds hrm)
    rw [HTB.out ds HDS.out] at HWK
    have HBW := Lib.hid hbw
    clear hrm hbg hbg2 hbw HCX HWT HTB
    generalize ds.length = nd at *
    go_wp2_with (go_at_call 47; refine HWK.out.mono ?_; rintro e w3 ⟨rfl, hw3⟩)
    go_ret2
    exact ⟨rfl, HBW.out.trans (hw3.mono HBW.out.size)⟩
end Go.Proofs.YtjpchjbpolcndaaDoor

namespace Go.Proofs.YtjpchjbpolcndaaDoor
open Go.RowKit

set_option maxRecDepth 8000 in
set_option maxHeartbeats 2000000 in
theorem wins_bad (A : Nat → Addr) (ex : Bool) (vo vi : Value) (ol il : List Int) (a : Option Addr) (c : Nat) (xss : List (List Int)) (kv : Value) (kn : List Bool) (w : World) (hk : BoolRow w kv kn) (hS : Sents2 w A) (ho : Row w vo ol) (hi : Row w vi il) (hr : RowsAt w a c xss) (hn : ol.length + il.length ≤ 1000000) (hb : ∀ v ∈ ol ++ il, -9223372036854775808 ≤ v ∧ v ≤ 9223372036854775807)
    (hint : ∀ xs ∈ xss, ∀ l ∈ xs, -9223372036854775807 ≤ l ∧ l ≤ 9223372036854775807) (hlen : ∀ xs ∈ xss, xs.length ≤ 1000000) (hm : xss.length ≤ 1000000) (hok : okM (ol ++ il) xss = false ∨ kn.length ≠ ol.length ∨ 20 < il.length) :
    Calls Tryd.prog 15 #[.agg #[.bool ex, vo, vi, .slice a xss.length c], kv] w fun e w' => e = .returned (.tuple #[.bool false, sentV A (if okM (ol ++ il) xss && kn.length == ol.length then 1 else 3)]) ∧ Below w.heap.size w w' := by
  have HM := Lib.hid (fun W (hW : Below w.heap.size w W) => matrix_any ex vo vi ol il a c xss W (ho.keep hW) (hi.keep hW) (hr.keep hW) hn hb hint hlen hm)
  have HSK := Lib.hid (fun W (hW : Below w.heap.size w W) => hS.keep hW)
  have HCX : Hid (∀ W, Below (w.alloc (.cells #[.bool ex, vo, vi, .slice a xss.length c] 26)).heap.size (w.alloc (.cells #[.bool ex, vo, vi, .slice a xss.length c] 26)) W → (W.cell? ⟨w.heap.size, 0, none⟩ = some (.bool ex) ∧ W.cell? ⟨w.heap.size, 1, none⟩ = some vo ∧ W.cell? ⟨w.heap.size, 2, none⟩ = some vi ∧ W.cell? ⟨w.heap.size, 3, none⟩ = some (.slice a xss.length c)) ∧ Below w.heap.size w W) := fun W h =>
    ⟨(cells4 w W _ _ _ _ 26 h).1, ((Below.refl _ w).alloc (Nat.le_refl _) _).trans (h.mono (by simp))⟩
  obtain ⟨ao, co, rfl, _⟩ := ho
  obtain ⟨ai, ci, rfl, _⟩ := hi
  obtain ⟨ak, ck, rfl, _⟩ := hk
  clear hr hb hint hlen hS
  have HA := Lib.hid (fun o => show Below w.heap.size w (w.alloc o) from (Below.refl _ w).alloc (Nat.le_refl _) _)
  unfold sentV
  generalize hx : okM (ol ++ il) xss = x at *
  cases x with
  | false =>
    rw [if_neg (by simp)]
    have HC3 : Hid (∀ W, Below w.heap.size w W → W.cell? ⟨0, 0, none⟩ = some (.iface 166 (.pointer (some (A 3))))) := fun W hW => (HSK.out W hW).c3
    generalize A 3 = q3 at *
    clear HSK
    clear hok
    generalize ol.length = no at *
    generalize kn.length = nk at *
    generalize il.length = ni at *
    generalize xss.length = nx at *
    go_enter Tryd.func15, Tryd.ntmps15
    go_wp2_with (go_at_call 42; refine (HM.out _ (HA.out _)).mono ?_; rintro e w1 ⟨⟨u, rfl, hu, _⟩, hb1⟩; obtain ⟨_, hbw1⟩ := HCX.out _ hb1; obtain rfl := hu rfl; have s3 := HC3.out w1 hbw1)
    have HBW := Lib.hid hbw1
    clear hb1 hbw1
    go_quiet (fail)
    go_wp2_with fail
    go_ret2
    exact ⟨rfl, by first | exact HBW.out | exact HBW.out.drew | exact below_drewN HBW.out _⟩
  | true =>
    by_cases hl : kn.length = ol.length
    · have h20 : 20 < il.length := (hok.resolve_left (by simp)).resolve_left (fun h => h hl)
      rw [if_pos (by simp [hl])]
      have HC1 : Hid (∀ W, Below w.heap.size w W → W.cell? ⟨1, 0, none⟩ = some (.iface 166 (.pointer (some (A 1))))) := fun W hW => (HSK.out W hW).c1
      generalize A 1 = q1 at *
      clear HSK hok
      generalize ol.length = no at *
      generalize il.length = ni at *
      generalize xss.length = nx at *
      generalize kn.length = nk at *
      subst hl
      have hkb : ((nk : Int) != (nk : Int)) = false := by simp
      have hd1 : decide ((20 : Int) < (ni : Int)) = true := decide_eq_true (by omega)
      have hd2 : decide (20 < ni) = true := decide_eq_true h20
      go_enter Tryd.func15, Tryd.ntmps15
      go_wp2_with (go_at_call 42; refine (HM.out _ (HA.out _)).mono ?_; rintro e w1 ⟨⟨u, rfl, _, hu⟩, hb1⟩; obtain ⟨⟨g0, g1, g2, g3⟩, hbw1⟩ := HCX.out _ hb1; obtain ⟨au, cu, rfl, _⟩ := (hu rfl).rows; have s1 := HC1.out w1 hbw1)
      have HBW := Lib.hid hbw1
      clear hb1 hbw1 hu
      go_quiet (fail)
      go_wp2_with fail
      go_ret2
      exact ⟨rfl, by first | exact HBW.out | exact HBW.out.drew | exact below_drewN HBW.out _⟩
    · rw [if_neg (by simp [hl])]
      have HC3 : Hid (∀ W, Below w.heap.size w W → W.cell? ⟨0, 0, none⟩ = some (.iface 166 (.pointer (some (A 3))))) := fun W hW => (HSK.out W hW).c3
      generalize A 3 = q3 at *
      clear HSK hok
      generalize ol.length = no at *
      generalize il.length = ni at *
      generalize xss.length = nx at *
      generalize kn.length = nk at *
      have hkb : ((nk : Int) != (no : Int)) = true := by simp; omega
      clear hl
      go_enter Tryd.func15, Tryd.ntmps15
      go_wp2_with (go_at_call 42; refine (HM.out _ (HA.out _)).mono ?_; rintro e w1 ⟨⟨u, rfl, _, hu⟩, hb1⟩; obtain ⟨⟨g0, g1, g2, g3⟩, hbw1⟩ := HCX.out _ hb1; obtain ⟨au, cu, rfl, _⟩ := (hu rfl).rows; have s3 := HC3.out w1 hbw1)
      have HBW := Lib.hid hbw1
      clear hb1 hbw1 hu
      go_quiet (fail)
      go_wp2_with fail
      go_ret2
      exact ⟨rfl, by first | exact HBW.out | exact HBW.out.drew | exact below_drewN HBW.out _⟩
end Go.Proofs.YtjpchjbpolcndaaDoor

namespace Go.Proofs.YtjpchjbpolcndaaDoor
open Go.RowKit

theorem rowNil (w : World) : Row w (.slice none 0 0) [] := ⟨none, 0, rfl, Nat.le_refl _, by unfold maxLen; omega, .inl rfl⟩
theorem rowsNil (w : World) : RowsAt w none 0 [] := ⟨Nat.le_refl _, by unfold maxLen; omega, .inl rfl⟩

set_option maxHeartbeats 1000000 in
theorem first7_any (w : World) : Calls Tryd.prog 10 #[] w fun e w' => e = .returned (.bool true) ∧ Below w.heap.size w w' := by
  have HV := Lib.hid (fun W => value_ok false (.slice none 0 0) (.slice none 0 0) [] [] none 0 [] W (rowNil W) (rowNil W) (rowsNil W) (by simp) (by simp) (by simp) (by simp) (by simp [okM]) (by simp))
  have hv : valueB (renM ([] ++ []) []) false (List.length ([] : List Int)) (List.length ([] : List Int)) = true := by decide
  rw [hv] at HV
  clear hv
  go_enter Tryd.func10, Tryd.ntmps10
  go_wp2_with (go_at_call 13; refine (HV.out _).mono ?_; rintro e w1 ⟨rfl, hb1⟩)
  go_ret
  exact ⟨rfl, hb1⟩

set_option maxHeartbeats 1000000 in
theorem isErr_any (ev : Value) (c : Int) (w : World) (h : ErrAs w ev c false 0) : Calls Tryd.prog 23 #[ev, .int .i64 c] w fun e w' => e = .returned (.bool true) ∧ Below w.heap.size w w' := by
  have HB := Lib.hid (fun W => bare_any c W)
  have HY := Lib.hid (fun W (hW : Below w.heap.size w W) => see_yes ev c false 0 W (h.keep hW))
  clear h
  unfold faultV at HB HY
  go_enter Tryd.func23, Tryd.ntmps23
  go_wp2_with (first
    | (go_at_call 45; refine (HB.out _).mono ?_; rintro e w1 ⟨rfl, hb1⟩)
    | (go_at_call 32; refine (HY.out _ hb1).mono ?_; rintro e w2 ⟨rfl, hb2⟩))
  go_ret
  exact ⟨rfl, hb1.trans (hb2.mono hb1.size)⟩
end Go.Proofs.YtjpchjbpolcndaaDoor
