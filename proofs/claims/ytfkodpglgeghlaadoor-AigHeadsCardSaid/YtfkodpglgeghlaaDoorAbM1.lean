/- A line of numbers in a fresh block onto a row of bytes: the program's appendLine, the document's numbers. Conditions: the table of powers of ten is as the program lays it; the numbers are below a thousand millions and not below 0. · Contract of aag.Bytes at a circuit: its text ('textA'). Conditions: no number is below 0 or of more than nine digits; at most a thousand inputs, gates and outputs; the table of powers of ten is as the program lays it. · Contract of aag.Bytes at a circuit: its text ('textA'). Conditions: no number is below 0 or of more than nine digits; at most a thousand inputs, gates and outputs; the table of powers of ten is as the program lays it. -/
import Derived.Test.YtfkodpglgeghlaaDoorLin
import Derived.Test.YtfkodpglgeghlaaDoorPrA
import Derived.Test.YtfkodpglgeghlaaDoorRdM
import Derived.Lib.SlBytesConst
import Derived.Deep.CutBlock
import Derived.Deep.DeepCutAuto
import Derived.Deep.RegionWith
namespace Go.Proofs.YtfkodpglgeghlaaDoor
open Go.RowKit

theorem lineApp (B : Nat) (sv : Value) (k : Nat) (xs : List Int) (n0 : Int) (rest : List Int) (w : World) (hown : w.ownsRow B 5 1 sv k (xs.map (Value.int .u8))) (hBw : B ≤ w.heap.size) (hbd : ∀ n ∈ n0 :: rest, 0 ≤ n ∧ n < 1000000000) (hl : rest.length ≤ 1000) (hlen : xs.length + 10 * (rest.length + 1) + 1 ≤ 100000) (ht : ∀ W, Below B w W → Lib.TabBelow Tryd.prog B W "internal/strconv.uint64pow10" .u64 Lib.pow10Tab) :
    Calls Tryd.prog 41 #[sv, .slice (some ⟨w.heap.size, 0, none⟩) (rest.length + 1) (rest.length + 1)] (w.alloc (.cells ((n0 :: rest).map (Value.int .i64)).toArray 3)) fun e w' => ∃ v', e = .returned v' ∧ w'.ownsRow B 5 1 v' (xs ++ lineL (n0 :: rest)).length ((xs ++ lineL (n0 :: rest)).map (Value.int .u8)) ∧ Below B w w' := by
  have hb := (Below.refl B w).alloc hBw (.cells ((n0 :: rest).map (Value.int .i64)).toArray 3)
  have hi : Ints (w.alloc (.cells ((n0 :: rest).map (Value.int .i64)).toArray 3)) w.heap.size (n0 :: rest) := heap_alloc_new w _
  have hlL := lineL_len (n0 :: rest) hbd
  have h0 := hbd n0 (by simp)
  refine (appLine_any B sv xs n0 rest w.heap.size _ hi (Nat.le_trans hBw hb.size) (appInt_ints B n0 (by omega) (by omega) sv k xs _ (own_keep hown ((Below.refl _ w).alloc (Nat.le_refl _) _)) (Nat.le_trans hBw hb.size) (by omega) (ht _ hb) w.heap.size _ hi) (fun n hn => by have := hbd n (by simp [hn]); omega) hl (by rw [List.length_append]; simp only [List.length_cons] at hlL; omega) (fun W hW => ht W (hb.trans hW))).mono ?_
  rintro e w' ⟨v', rfl, h1, h2⟩
  exact ⟨v', rfl, h1, hb.trans h2⟩
theorem lineNum (B : Nat) (sv : Value) (k : Nat) (xs : List Int) (n0 : Int) (rest : List Int) (w : World) (hown : w.ownsRow B 5 1 sv k (xs.map (Value.int .u8))) (hBw : B ≤ w.heap.size) (hbd : ∀ n ∈ n0 :: rest, 0 ≤ n ∧ n < 1000000000) (hl : rest.length ≤ 1000) (hlen : xs.length + 10 * (rest.length + 1) + 1 ≤ 100000) (ht : ∀ W, Below B w W → Lib.TabBelow Tryd.prog B W "internal/strconv.uint64pow10" .u64 Lib.pow10Tab) :
    Calls Tryd.prog 31 #[sv, .slice (some ⟨w.heap.size, 0, none⟩) (rest.length + 1) (rest.length + 1)] (w.alloc (.cells ((n0 :: rest).map (Value.int .i64)).toArray 3)) fun e w' => ∃ v', e = .returned v' ∧ w'.ownsRow B 5 1 v' (xs ++ lineL (n0 :: rest)).length ((xs ++ lineL (n0 :: rest)).map (Value.int .u8)) ∧ Below B w w' := by
  have hb := (Below.refl B w).alloc hBw (.cells ((n0 :: rest).map (Value.int .i64)).toArray 3)
  have hi : Ints (w.alloc (.cells ((n0 :: rest).map (Value.int .i64)).toArray 3)) w.heap.size (n0 :: rest) := heap_alloc_new w _
  have hlL := lineL_len (n0 :: rest) hbd
  have h0 := hbd n0 (by simp)
  refine (numbers_any B sv xs n0 rest w.heap.size _ hi (Nat.le_trans hBw hb.size) (appInt_ints B n0 (by omega) (by omega) sv k xs _ (own_keep hown ((Below.refl _ w).alloc (Nat.le_refl _) _)) (Nat.le_trans hBw hb.size) (by omega) (ht _ hb) w.heap.size _ hi) (fun n hn => by have := hbd n (by simp [hn]); omega) hl (by rw [List.length_append]; simp only [List.length_cons] at hlL; omega) (fun W hW => ht W (hb.trans hW))).mono ?_
  rintro e w' ⟨v', rfl, h1, h2⟩
  exact ⟨v', rfl, h1, hb.trans h2⟩
theorem lineAppW (B nb : Nat) (sv : Value) (k : Nat) (xs : List Int) (n0 : Int) (rest : List Int) (w W : World) (hown : w.ownsRow B 5 1 sv k (xs.map (Value.int .u8))) (hBw : B ≤ w.heap.size) (hb : Below w.heap.size w W) (hi : Ints W nb (n0 :: rest)) (hbd : ∀ n ∈ n0 :: rest, 0 ≤ n ∧ n < 1000000000) (hl : rest.length ≤ 1000) (hlen : xs.length + 10 * (rest.length + 1) + 1 ≤ 100000) (ht : ∀ W, Below B w W → Lib.TabBelow Tryd.prog B W "internal/strconv.uint64pow10" .u64 Lib.pow10Tab) :
    Calls Tryd.prog 41 #[sv, .slice (some ⟨nb, 0, none⟩) (rest.length + 1) (rest.length + 1)] W fun e w' => ∃ v', e = .returned v' ∧ w'.ownsRow B 5 1 v' (xs ++ lineL (n0 :: rest)).length ((xs ++ lineL (n0 :: rest)).map (Value.int .u8)) ∧ Below B w w' := by
  have hlL := lineL_len (n0 :: rest) hbd
  have h0 := hbd n0 (by simp)
  have hbB := hb.mono hBw
  refine (appLine_any B sv xs n0 rest nb _ hi (Nat.le_trans hBw hb.size) (appInt_ints B n0 (by omega) (by omega) sv k xs _ (own_keep hown hb) (Nat.le_trans hBw hb.size) (by omega) (ht _ hbB) nb _ hi) (fun n hn => by have := hbd n (by simp [hn]); omega) hl (by rw [List.length_append]; simp only [List.length_cons] at hlL; omega) (fun W hW => ht W (hbB.trans hW))).mono ?_
  rintro e w' ⟨v', rfl, h1, h2⟩
  exact ⟨v', rfl, h1, hbB.trans h2⟩
theorem lineNumW (B nb : Nat) (sv : Value) (k : Nat) (xs : List Int) (n0 : Int) (rest : List Int) (w W : World) (hown : w.ownsRow B 5 1 sv k (xs.map (Value.int .u8))) (hBw : B ≤ w.heap.size) (hb : Below w.heap.size w W) (hi : Ints W nb (n0 :: rest)) (hbd : ∀ n ∈ n0 :: rest, 0 ≤ n ∧ n < 1000000000) (hl : rest.length ≤ 1000) (hlen : xs.length + 10 * (rest.length + 1) + 1 ≤ 100000) (ht : ∀ W, Below B w W → Lib.TabBelow Tryd.prog B W "internal/strconv.uint64pow10" .u64 Lib.pow10Tab) :
    Calls Tryd.prog 31 #[sv, .slice (some ⟨nb, 0, none⟩) (rest.length + 1) (rest.length + 1)] W fun e w' => ∃ v', e = .returned v' ∧ w'.ownsRow B 5 1 v' (xs ++ lineL (n0 :: rest)).length ((xs ++ lineL (n0 :: rest)).map (Value.int .u8)) ∧ Below B w w' := by
  have hlL := lineL_len (n0 :: rest) hbd
  have h0 := hbd n0 (by simp)
  have hbB := hb.mono hBw
  refine (numbers_any B sv xs n0 rest nb _ hi (Nat.le_trans hBw hb.size) (appInt_ints B n0 (by omega) (by omega) sv k xs _ (own_keep hown hb) (Nat.le_trans hBw hb.size) (by omega) (ht _ hbB) nb _ hi) (fun n hn => by have := hbd n (by simp [hn]); omega) hl (by rw [List.length_append]; simp only [List.length_cons] at hlL; omega) (fun W hW => ht W (hbB.trans hW))).mono ?_
  rintro e w' ⟨v', rfl, h1, h2⟩
  exact ⟨v', rfl, h1, hbB.trans h2⟩
end Go.Proofs.YtfkodpglgeghlaaDoor

namespace Go.Proofs.YtfkodpglgeghlaaDoor
open Go.RowKit

/-- The box, the constant, the head's numbers. -/
def byW (w : World) (i : Int) (u v : Value) : World := w.alloc (.cells #[.int .i64 i, u, v] 27)
def byC (w : World) (i : Int) (u v : Value) : World := (byW w i u v).alloc (.cells #[.int .u8 97, .int .u8 97, .int .u8 103, .int .u8 32] 5 (4, 5))
def byI (w : World) (i : Int) (u v : Value) (a b : Int) : World := (byC w i u v).alloc (.cells #[.int .i64 (i + a), .int .i64 i, .int .i64 0, .int .i64 b, .int .i64 a] 3)
theorem by_box {w : World} {i : Int} {u v : Value} {W : World} (hW : Below (w.heap.size + 1) (byW w i u v) W) : (W.cell? ⟨w.heap.size, 0, none⟩ = some (.int .i64 i) ∧ W.cell? ⟨w.heap.size, 1, none⟩ = some u ∧ W.cell? ⟨w.heap.size, 2, none⟩ = some v) ∧ w.heap.size < W.heap.size := by
  have hw0s : (byW w i u v).heap.size = w.heap.size + 1 := by simp [byW]
  have hs := hW.size
  rw [hw0s] at hs
  rw [← hw0s] at hW
  obtain ⟨hc, _⟩ := bcell hW
  unfold byW at *
  exact ⟨⟨by rw [hc _ _ (by simp), World.cell?_alloc_at _ _ _ _ (by simp)]; rfl, by rw [hc _ _ (by simp), World.cell?_alloc_at _ _ _ _ (by simp)]; rfl, by rw [hc _ _ (by simp), World.cell?_alloc_at _ _ _ _ (by simp)]; rfl⟩, by omega⟩
theorem by_head {w : World} {i a b : Int} {u v : Value} (hi : 0 ≤ i ∧ i ≤ 1000) (ha : 0 ≤ a ∧ a ≤ 1000) (hb : 0 ≤ b ∧ b ≤ 1000) (ht : Tabs w) :
    Below (w.heap.size + 1) (byW w i u v) (byI w i u v a b) ∧
    Calls Tryd.prog 41 #[.slice (some ⟨w.heap.size + 1, 0, none⟩) 4 4, .slice (some ⟨w.heap.size + 1 + 1, 0, none⟩) 5 5] (byI w i u v a b) fun e w' => ∃ v', e = .returned v' ∧ w'.ownsRow (w.heap.size + 1) 5 1 v' ([97, 97, 103, 32] ++ lineL [i + a, i, 0, b, a]).length (([97, 97, 103, 32] ++ lineL [i + a, i, 0, b, a]).map (Value.int .u8)) ∧ Below (w.heap.size + 1) (byI w i u v a b) w' := by
  have hs1 : (byW w i u v).heap.size = w.heap.size + 1 := by simp [byW]
  have hs2 : (byC w i u v).heap.size = w.heap.size + 1 + 1 := by simp [byC, byW]
  have hs3 : (byI w i u v a b).heap.size = w.heap.size + 1 + 1 + 1 := by simp [byI, byC, byW]
  have b1 : Below w.heap.size w (byW w i u v) := (Below.refl _ w).alloc (Nat.le_refl _) _
  have b2 : Below (w.heap.size + 1) (byW w i u v) (byC w i u v) := (Below.refl _ _).alloc (by omega) _
  have b3 : Below (w.heap.size + 1 + 1) (byC w i u v) (byI w i u v a b) := (Below.refl _ _).alloc (by omega) _
  have b23 : Below (w.heap.size + 1) (byW w i u v) (byI w i u v a b) := b2.trans (b3.mono (by omega))
  have bw : Below w.heap.size w (byI w i u v a b) := b1.trans (b23.mono (by omega))
  have hin : Ints (byI w i u v a b) (w.heap.size + 1 + 1) [i + a, i, 0, b, a] := by
    have := heap_alloc_new (byC w i u v) (.cells #[.int .i64 (i + a), .int .i64 i, .int .i64 0, .int .i64 b, .int .i64 a] 3)
    rw [hs2] at this
    exact this
  have hcell : ∀ j x, (([97, 97, 103, 32] : List Int).map (Value.int .u8))[j]? = some x → (byI w i u v a b).cell? ⟨w.heap.size + 1, j, none⟩ = some x := fun j x hj => by
    rw [b3.cell (p := ⟨w.heap.size + 1, j, none⟩) (by simp), ← hs1]
    unfold byC
    rw [World.cell?_alloc_mark]
    simpa using hj
  have hT : ∀ W, Below (w.heap.size + 1) (byI w i u v a b) W → Lib.TabBelow Tryd.prog (w.heap.size + 1) W "internal/strconv.uint64pow10" .u64 Lib.pow10Tab := fun W hW => ht.at _ (bw.trans (hW.mono (by omega))) (by omega)
  have hn : ∀ n ∈ [i + a, i, 0, b, a], 0 ≤ n ∧ n < 1000000000 := by
    intro n hn
    simp at hn
    omega
  obtain ⟨N, hN⟩ : ∃ N : Nat, i + a = (N : Int) := ⟨(i + a).toNat, by omega⟩
  refine ⟨b23, appLine_any (w.heap.size + 1) _ [97, 97, 103, 32] (i + a) [i, 0, b, a] (w.heap.size + 1 + 1) _ hin (by omega) ?_ (fun n h => by have := hn n (by simp at h ⊢; omega); omega) (by simp) ?_ hT⟩
  · rw [hN]
    rw [hN] at hin
    exact appFirst_ints (w.heap.size + 1) (w.heap.size + 1) 4 N (by omega) [97, 97, 103, 32] rfl (by omega) _ (by omega) hcell (by omega) (hT _ (Below.refl _ _)).here (w.heap.size + 1 + 1) _ hin
  · have := lineL_len [i + a, i, 0, b, a] hn
    rw [List.length_append]
    simp only [List.length_cons, List.length_nil] at this ⊢
    omega

theorem insT_len : ∀ (k : Nat), k ≤ 1000 → (insT k).length ≤ 11 * k
  | 0, _ => by simp [insT]
  | k + 1, h => by
    rw [insT_succ, List.length_append]
    have h1 := insT_len k (by omega)
    have h2 := lineL_len [2 * ((k : Int) + 1)] (by intro n hn; simp at hn; omega)
    simp only [List.length_cons, List.length_nil] at h2
    omega
theorem outsT_len : ∀ (os : List Int), (∀ o ∈ os, 0 ≤ o ∧ o < 1000000000) → (outsT os).length ≤ 11 * os.length
  | [], _ => by simp [outsT]
  | o :: os, h => by
    have h1 := outsT_len os (fun x hx => h x (by simp [hx]))
    have h2 := lineL_len [o] (by intro n hn; simp at hn; subst hn; exact h n (by simp))
    unfold outsT at *
    rw [List.flatMap_cons, List.length_append]
    simp only [List.length_cons, List.length_nil] at h2 ⊢
    omega
theorem gatesT_len (i : Nat) (hi : i ≤ 1000) : ∀ (ps : List (Int × Int)) (k : Nat), k + ps.length ≤ 1000 → (∀ x ∈ ps, (0 ≤ x.1 ∧ x.1 < 1000000000) ∧ 0 ≤ x.2 ∧ x.2 < 1000000000) → (gatesT i k ps).length ≤ 31 * ps.length
  | [], k, _, _ => by simp [gatesT]
  | x :: ps, k, hk, h => by
    simp only [List.length_cons] at hk
    have h1 := gatesT_len i hi ps (k + 1) (by omega) (fun y hy => h y (by simp [hy]))
    have h3 := h x (by simp)
    have h2 := lineL_len [2 * ((i : Int) + (k : Int) + 1), x.1, x.2] (by
      intro n hn
      simp at hn
      rcases hn with rfl | rfl | rfl
      · omega
      · exact h3.1
      · exact h3.2)
    rw [gatesT, List.length_append]
    simp only [List.length_cons, List.length_nil] at h2 ⊢
    omega
end Go.Proofs.YtfkodpglgeghlaaDoor

namespace Go.Proofs.YtfkodpglgeghlaaDoor
open Go.RowKit

set_option maxRecDepth 8000 in
set_option maxHeartbeats 8000000 in
theorem byt_any (i : Nat) (u v : Value) (ps : List (Int × Int)) (os : List Int) (w : World) (hU : PRow w u ps) (hV : Row w v os) (hi : i ≤ 1000) (hp : ps.length ≤ 1000) (ho : os.length ≤ 1000)
    (hpb : ∀ x ∈ ps, (0 ≤ x.1 ∧ x.1 < 1000000000) ∧ 0 ≤ x.2 ∧ x.2 < 1000000000) (hob : ∀ o ∈ os, 0 ≤ o ∧ o < 1000000000) (ht : Tabs w) :
    Calls Tryd.prog 22 #[circV (i : Int) u v] w fun e w' => ∃ v', e = .returned v' ∧ w'.ownsRow w.heap.size 5 1 v' (textA i ps os).length ((textA i ps os).map (Value.int .u8)) ∧ Below w.heap.size w w' := by
  obtain ⟨au, cu, rfl, hcu, hcm, hx⟩ := hU
  obtain ⟨av, cv, rfl, hcv, hcvm, hy⟩ := hV
  unfold maxLen at hcm hcvm
  have HB0 := Lib.hid (show Below w.heap.size w (byW w (i : Int) (.slice au ps.length cu) (.slice av os.length cv)) from (Below.refl _ w).alloc (Nat.le_refl _) _)
  have hhd := by_head (w := w) (i := (i : Int)) (a := (ps.length : Int)) (b := (os.length : Int)) (u := .slice au ps.length cu) (v := .slice av os.length cv) ⟨by omega, by omega⟩ ⟨by omega, by omega⟩ ⟨by omega, by omega⟩ ht
  have HBI := Lib.hid hhd.1
  have HHD := Lib.hid hhd.2
  clear hhd
  have HBX := Lib.hid (fun W (hW : Below (w.heap.size + 1) (byW w (i : Int) (.slice au ps.length cu) (.slice av os.length cv)) W) => by_box hW)
  have HTT := Lib.hid (fun W (hW : Below (w.heap.size + 1) (byW w (i : Int) (.slice au ps.length cu) (.slice av os.length cv)) W) W' (hW' : Below (w.heap.size + 1) W W') => ht.at (w.heap.size + 1) (HB0.out.trans ((hW.trans hW').mono (by omega))) (by omega))
  have HX : Hid (∀ k, k < ps.length → ∃ b off, au = some ⟨b, off, none⟩ ∧ ∀ W, Below w.heap.size w W → W.cell? ⟨b, off + k * 2, none⟩ = some (.int .i64 (ps.getD k (0, 0)).1) ∧ W.cell? ⟨b, off + k * 2 + 1, none⟩ = some (.int .i64 (ps.getD k (0, 0)).2)) := fun k hk => by
    obtain ⟨b, off, e, hbl, hc⟩ := hx.resolve_left (by omega)
    exact ⟨b, off, e, fun W hW => ⟨(hW.cell (p := ⟨b, off + k * 2, none⟩) hbl).trans (hc k hk).1, (hW.cell (p := ⟨b, off + k * 2 + 1, none⟩) hbl).trans (hc k hk).2⟩⟩
  have HY : Hid (∀ k, k < os.length → ∃ b off, av = some ⟨b, off, none⟩ ∧ ∀ W, Below w.heap.size w W → W.cell? ⟨b, off + k, none⟩ = some (.int .i64 (os.getD k 0))) := fun k hk => by
    obtain ⟨b, off, e, hbl, hc⟩ := hy.resolve_left (by omega)
    exact ⟨b, off, e, fun W hW => (hW.cell (p := ⟨b, off + k, none⟩) hbl).trans (hc k hk)⟩
  have HPB : Hid (∀ k, k < ps.length → (0 ≤ (ps.getD k (0, 0)).1 ∧ (ps.getD k (0, 0)).1 < 1000000000) ∧ 0 ≤ (ps.getD k (0, 0)).2 ∧ (ps.getD k (0, 0)).2 < 1000000000) := fun k hk => by
    have := hpb _ (List.getElem_mem hk)
    simpa [List.getD, hk] using this
  have HOB : Hid (∀ k, k < os.length → 0 ≤ os.getD k 0 ∧ os.getD k 0 < 1000000000) := fun k hk => by
    have := hob _ (List.getElem_mem hk)
    simpa [List.getD, hk] using this
  have HLI : Hid (([97, 97, 103, 32] ++ lineL [(i : Int) + (ps.length : Int), (i : Int), 0, (os.length : Int), (ps.length : Int)]).length ≤ 100) := by
    have := lineL_len [(i : Int) + (ps.length : Int), (i : Int), 0, (os.length : Int), (ps.length : Int)] (by intro n hn; simp at hn; omega)
    unfold Hid
    rw [List.length_append]
    simp only [List.length_cons, List.length_nil] at this ⊢
    omega
  have HIL : Hid (∀ k, k ≤ i → (insT k).length ≤ 11 * k) := fun k hk => insT_len k (by omega)
  have HOL : Hid (∀ k, k ≤ os.length → (outsT (os.take k)).length ≤ 11 * 1000) := fun k hk => by
    have := outsT_len (os.take k) (fun o h => hob o (List.mem_of_mem_take h))
    rw [List.length_take] at this
    omega
  have HGL : Hid (∀ k, k ≤ ps.length → (gatesT i 0 (ps.take k)).length ≤ 31 * 1000) := fun k hk => by
    have := gatesT_len i hi (ps.take k) 0 (by rw [List.length_take]; omega) (fun o h => hpb o (List.mem_of_mem_take h))
    rw [List.length_take] at this
    omega
  have HOS : Hid (∀ k, k < os.length → outsT (os.take (k + 1)) = outsT (os.take k) ++ lineL [os.getD k 0]) := fun k hk => outsT_succ os k hk
  have HGS : Hid (∀ k, k < ps.length → gatesT i 0 (ps.take (k + 1)) = gatesT i 0 (ps.take k) ++ lineL [2 * ((i : Int) + (k : Int) + 1), (ps.getD k (0, 0)).1, (ps.getD k (0, 0)).2]) := fun k hk => gatesT_succ i ps k hk
  have HEND : Hid (textA i ps os = [97, 97, 103, 32] ++ lineL [(i : Int) + (ps.length : Int), (i : Int), 0, (os.length : Int), (ps.length : Int)] ++ insT i ++ outsT (os.take os.length) ++ gatesT i 0 (ps.take ps.length)) := by
    unfold Hid textA headT
    rw [List.take_length, List.take_length]
  have HLT := Lib.hid literal_any
  have HO0 : Hid (outsT (os.take 0) = []) := rfl
  have HG0 : Hid (gatesT i 0 (ps.take 0) = []) := rfl
  clear hx hy hpb hob ht
  generalize [97, 97, 103, 32] ++ lineL [(i : Int) + (ps.length : Int), (i : Int), 0, (os.length : Int), (ps.length : Int)] = hd at *
  generalize ps.length = m at *
  generalize os.length = l at *
  have hmx : max (i : Int) 0 = (i : Int) := by omega
  have hml : decide ((268435456 : Int) < (i : Int)) = false := by simp; omega
  unfold circV
  unfold byI byC at HHD HBI
  unfold byW at *
  have hw0s : (w.alloc (.cells #[.int .i64 (i : Int), .slice au m cu, .slice av l cv] 27)).heap.size = w.heap.size + 1 := by simp
  have kc := Lib.run_convert_bytes_const (P := Tryd.prog) (w.alloc (.cells #[.int .i64 (i : Int), .slice au m cu, .slice av l cv] 27)) 23 5 #[.int .u8 97, .int .u8 97, .int .u8 103, .int .u8 32] 4 4 Tryd.underlying23 Tryd.underlying5
  rw [hw0s] at kc
  clear hw0s
  go_enter Tryd.func22, Tryd.ntmps22
  go_wp2_with (go_at_call 41; refine HHD.out.mono ?_; rintro e1 w1 ⟨v1, rfl, hown1, hb1⟩)
  have HO1 := Lib.hid hown1
  have HB1 := Lib.hid (HBI.out.trans hb1)
  clear hown1 hb1 HHD HBI kc hmx hml
  generalize hw0 : w.alloc (.cells #[.int .i64 (i : Int), .slice au m cu, .slice av l cv] 27) = w0 at *
  have HZ0 : Hid (w0.heap.size = w.heap.size + 1) := by unfold Hid; rw [← hw0]; simp
  clear hw0
  have HI9 := Lib.hid hi
  go_loopw [4, 32] (fun bv iv wr => ∃ k : Nat, k ≤ i ∧ iv = .int .i64 (k : Int) ∧ Hid (wr.ownsRow (w.heap.size + 1) 5 1 bv (hd ++ insT k).length ((hd ++ insT k).map (Value.int .u8)) ∧ Below (w.heap.size + 1) w0 wr)) (fun _ iv _ => i - (intOf iv).toNat)
  case atStart => exact ⟨0, Nat.zero_le _, rfl, by simpa [insT] using HO1.out, HB1.out⟩
  case round =>
    obtain ⟨k, hk, rfl, HH⟩ := hrel
    obtain ⟨hown, hbr⟩ := HH.out
    clear HH HO1 HB1
    have hsr : w.heap.size + 1 ≤ wr.heap.size := by have := hbr.size; have := HZ0.out; omega
    by_cases hlt : k < i
    · obtain ⟨ab, kb, cb, rfl, HK, HO⟩ := bopen hown
      have HL1 := Lib.hid (lineApp (w.heap.size + 1) (.slice ab kb cb) kb (hd ++ insT k) (2 * ((k : Int) + 1)) [] wr HO.out hsr (by intro n hn; simp at hn; omega) (by simp) (by rw [List.length_append]; have := HLI.out; have := HIL.out k hk; simp; omega) (fun W hW => HTT.out wr hbr W hW))
      have HS1 := Lib.hid (show hd ++ insT (k + 1) = hd ++ insT k ++ lineL [2 * ((k : Int) + 1)] by rw [insT_succ, List.append_assoc])
      have HBR := Lib.hid hbr
      have hk1 : (k : Int) ≤ 1000 := by omega
      clear hown hbr HTT HBX HX HY
      go_wp2_with (first
        | (go_at_call 42; refine (HLT.out ((k : Int) + 1) _ (by omega) (by omega)).mono ?_; rintro e2 w2 ⟨rfl, rfl⟩)
        | (go_at_call 41; refine HL1.out.mono ?_; rintro e3 w3 ⟨v3, rfl, hown3, hb3⟩; have HO3 := Lib.hid hown3; have HB3 := Lib.hid (HBR.out.trans hb3); clear hown3 hb3))
      go_roundw
      case rel => exact ⟨k + 1, by omega, by go_num, by rw [HS1.out]; exact HO3.out, HB3.out⟩
      case measure => simp [intOf]; omega
    · have hki : i = k := by omega
      subst hki
      obtain ⟨ab, kb, cb, rfl, HK, HO⟩ := bopen hown
      obtain ⟨⟨g0, g1, g2⟩, hqs⟩ := HBX.out wr hbr
      have HB2 := Lib.hid hbr
      clear hown hbr hlt hk
      go_wp2_with fail
      clear g0 g1 g2
      have HL2 : Hid ((hd ++ insT i).length ≤ 100 + 11 * 1000) := by unfold Hid; rw [List.length_append]; have := HLI.out; have := HIL.out i (Nat.le_refl _); omega
      have HTE : Hid (textA i ps os = hd ++ insT i ++ outsT (os.take l) ++ gatesT i 0 (ps.take m)) := HEND.out
      clear HEND HLI HIL
      generalize hd ++ insT i = hi2 at *
      go_loopw [4, 45] (fun bv iv wr => ∃ k : Nat, k ≤ l ∧ iv = .int .i64 (k : Int) ∧ Hid (wr.ownsRow (w.heap.size + 1) 5 1 bv (hi2 ++ outsT (os.take k)).length ((hi2 ++ outsT (os.take k)).map (Value.int .u8)) ∧ Below (w.heap.size + 1) w0 wr)) (fun _ iv _ => l - (intOf iv).toNat)
      case atStart => exact ⟨0, Nat.zero_le _, rfl, by rw [HO0.out, List.append_nil, ← HK.out]; exact HO.out, HB2.out⟩
      case round =>
        obtain ⟨k, hk, rfl, HH⟩ := hrel
        obtain ⟨hown, hbr⟩ := HH.out
        clear HH HO HB2 HK
        rename World => wr
        have hsr : w.heap.size + 1 ≤ wr.heap.size := by have := hbr.size; have := HZ0.out; omega
        by_cases hlt : k < l
        · obtain ⟨ab, kb, cb, rfl, HK, HO⟩ := bopen hown
          obtain ⟨b, off, rfl, hcl⟩ := HY.out k hlt
          have y0 := hcl wr (HB0.out.trans (hbr.mono (by omega)))
          have HL1 := Lib.hid (lineApp (w.heap.size + 1) (.slice ab kb cb) kb (hi2 ++ outsT (os.take k)) (os.getD k 0) [] wr HO.out hsr (by intro n hn; simp only [List.mem_singleton] at hn; subst hn; exact HOB.out k hlt) (by simp) (by rw [List.length_append]; have := HL2.out; have := HOL.out k hk; simp; omega) (fun W hW => HTT.out wr hbr W hW))
          have HS1 : Hid (hi2 ++ outsT (os.take (k + 1)) = hi2 ++ outsT (os.take k) ++ lineL [os.getD k 0]) := by unfold Hid; rw [HOS.out k hlt, List.append_assoc]
          have HBR := Lib.hid hbr
          clear hown hbr HTT HBX HX HY hcl
          generalize os.getD k 0 = x at *
          go_wp2_with (go_at_call 41; refine HL1.out.mono ?_; rintro e3 w3 ⟨v3, rfl, hown3, hb3⟩; have HO3 := Lib.hid hown3; have HB3 := Lib.hid (HBR.out.trans hb3); clear hown3 hb3)
          go_roundw
          case rel => exact ⟨k + 1, by omega, by go_num, by rw [HS1.out]; exact HO3.out, HB3.out⟩
          case measure => simp [intOf]; omega
        · have hkl : l = k := by omega
          subst hkl
          obtain ⟨ab, kb, cb, rfl, HK, HO⟩ := bopen hown
          obtain ⟨⟨g0, g1, g2⟩, hqs⟩ := HBX.out wr hbr
          have HB2 := Lib.hid hbr
          clear hown hbr hlt hk HOS HOB HY
          go_wp2_with fail
          clear g0 g1 g2
          have HL3 : Hid ((hi2 ++ outsT (os.take l)).length ≤ 100 + 11 * 1000 + 11 * 1000) := by unfold Hid; rw [List.length_append]; have := HL2.out; have := HOL.out l (Nat.le_refl _); omega
          clear HL2 HOL
          generalize hi2 ++ outsT (os.take l) = hi3 at *
          go_loopw [4, 57] (fun bv iv wr => ∃ k : Nat, k ≤ m ∧ iv = .int .i64 (k : Int) ∧ Hid (wr.ownsRow (w.heap.size + 1) 5 1 bv (hi3 ++ gatesT i 0 (ps.take k)).length ((hi3 ++ gatesT i 0 (ps.take k)).map (Value.int .u8)) ∧ Below (w.heap.size + 1) w0 wr)) (fun _ iv _ => m - (intOf iv).toNat)
          case atStart => exact ⟨0, Nat.zero_le _, rfl, by rw [HG0.out, List.append_nil, ← HK.out]; exact HO.out, HB2.out⟩
          case round =>
            obtain ⟨k, hk, rfl, HH⟩ := hrel
            obtain ⟨hown, hbr⟩ := HH.out
            clear HH HO HB2 HK
            rename World => wr
            have hsr : w.heap.size + 1 ≤ wr.heap.size := by have := hbr.size; have := HZ0.out; omega
            by_cases hlt : k < m
            · obtain ⟨ab, kb, cb, rfl, HK, HO⟩ := bopen hown
              obtain ⟨b, off, rfl, hcl⟩ := HX.out k hlt
              obtain ⟨y0, y1⟩ := hcl wr (HB0.out.trans (hbr.mono (by omega)))
              have hpk := HPB.out k hlt
              have HS1 : Hid (hi3 ++ gatesT i 0 (ps.take (k + 1)) = hi3 ++ gatesT i 0 (ps.take k) ++ lineL [2 * ((i : Int) + (k : Int) + 1), (ps.getD k (0, 0)).1, (ps.getD k (0, 0)).2]) := by unfold Hid; rw [HGS.out k hlt, List.append_assoc]
              have HLX : Hid ((hi3 ++ gatesT i 0 (ps.take k)).length ≤ 100 + 11 * 1000 + 11 * 1000 + 31 * 1000) := by unfold Hid; rw [List.length_append]; have := HL3.out; have := HGL.out k hk; omega
              generalize (ps.getD k (0, 0)).1 = x at *
              generalize (ps.getD k (0, 0)).2 = y at *
              have hik : (i : Int) + (k : Int) ≤ 2000 := by omega
              obtain ⟨S, hS⟩ : ∃ S : Int, (i : Int) + (k : Int) = S := ⟨_, rfl⟩
              obtain ⟨P, hP⟩ : ∃ P : Int, S + 1 = P := ⟨_, rfl⟩
              have hw1 : IntKind.i64.wrap ((i : Int) + (k : Int)) = S := by rw [IntWalk.i64_in _ (by omega)]; exact hS
              have hw2 : IntKind.i64.wrap (S + 1) = P := by rw [IntWalk.i64_in _ (by omega)]; exact hP
              have hPb : 0 ≤ P ∧ P ≤ 3000 := by omega
              rw [hS, hP] at HS1
              have HL1 : Hid (∀ W, Below wr.heap.size wr W → Ints W (wr.heap.size + 1) [2 * P, x, y] → Calls Tryd.prog 41 #[.slice ab kb cb, .slice (some ⟨wr.heap.size + 1, 0, none⟩) 3 3] W fun e w' => ∃ v', e = .returned v' ∧ w'.ownsRow (w.heap.size + 1) 5 1 v' (hi3 ++ gatesT i 0 (ps.take k) ++ lineL [2 * P, x, y]).length ((hi3 ++ gatesT i 0 (ps.take k) ++ lineL [2 * P, x, y]).map (Value.int .u8)) ∧ Below (w.heap.size + 1) wr w') := fun W hW hin =>
                lineAppW (w.heap.size + 1) (wr.heap.size + 1) (.slice ab kb cb) kb (hi3 ++ gatesT i 0 (ps.take k)) (2 * P) [x, y] wr W HO.out hsr hW hin (by intro n hn; simp at hn; omega) (by simp) (by have := HLX.out; simp only [List.length_cons, List.length_nil]; omega) (fun W' hW' => HTT.out wr hbr W' hW')
              have HIN : Hid (Ints ((wr.alloc (.cells #[.int .i64 x, .int .i64 y] 48)).alloc (.cells #[.int .i64 (2 * P), .int .i64 x, .int .i64 y] 3)) (wr.heap.size + 1) [2 * P, x, y]) := by
                have := heap_alloc_new (wr.alloc (.cells #[.int .i64 x, .int .i64 y] 48)) (.cells #[.int .i64 (2 * P), .int .i64 x, .int .i64 y] 3)
                rw [show (wr.alloc (.cells #[.int .i64 x, .int .i64 y] 48)).heap.size = wr.heap.size + 1 by simp] at this
                exact this
              have HBP : Hid (Below wr.heap.size wr ((wr.alloc (.cells #[.int .i64 x, .int .i64 y] 48)).alloc (.cells #[.int .i64 (2 * P), .int .i64 x, .int .i64 y] 3))) := ((Below.refl _ wr).alloc (Nat.le_refl _) _).alloc (by simp) _
              have HBR := Lib.hid hbr
              clear hown hbr HTT HBX HX hcl HO HLX hpk
              clear hS hP hik
              obtain ⟨hP0, hP1⟩ := hPb
              go_wp2_with fail
              go_region_with (first
                | (go_at_call 42; refine (HLT.out P _ (by omega) (by omega)).mono ?_; rintro e2 w2 ⟨rfl, rfl⟩)
                | (go_at_call 41; refine (HL1.out _ (by first | exact HBP.out | exact HBP.out.drew) (by exact HIN.out)).mono ?_; rintro e3 w3 ⟨v3, rfl, hown3, hb3⟩; have HO3 := Lib.hid hown3; have HB3 := Lib.hid (HBR.out.trans hb3); clear hown3 hb3))
              all_goals
                go_wp2_with fail
                go_roundw
                case rel => exact ⟨k + 1, by omega, by go_num, by rw [HS1.out]; exact HO3.out, HB3.out⟩
                case measure => simp [intOf]; omega
            · have hkm : m = k := by omega
              subst hkm
              obtain ⟨ab, kb, cb, rfl, HK, HO⟩ := bopen hown
              have HB2 := Lib.hid hbr
              clear hown hbr hlt hk HX
              go_wp2_with fail
              go_ret
              rw [HTE.out]
              refine ⟨_, rfl, ?_, HB0.out.trans (HB2.out.mono (by omega))⟩
              rw [← HK.out]
              exact own_base HO.out (by omega)
end Go.Proofs.YtfkodpglgeghlaaDoor
