/- Contract of the document's AigBytes at a right circuit: its text in few bytes ('textB'). Conditions: at most a thousand inputs, gates and outputs; the table of powers of ten is as the program lays it. · The law AigBack: true for whatever arguments. Conditions: the slices read as 64-bit ints, as bytes; the errors lie as 'Sents' says; the table of powers of ten is as the program lays it. -/
import Derived.Test.YtfkodpglgeghlaaDoorGbM
import Derived.Deep.RegionHeld3
import Derived.Test.YtfkodpglgeghlaaDoorCqM
import Derived.Test.YtfkodpglgeghlaaDoorAbM2
namespace Go.Proofs.YtfkodpglgeghlaaDoor
open Go.RowKit

def gbC (w : World) (i : Int) (u v : Value) : World := (byW w i u v).alloc (.cells #[.int .u8 97, .int .u8 105, .int .u8 103, .int .u8 32] 5 (4, 5))
def gbI (w : World) (i : Int) (u v : Value) (a b : Int) : World := (gbC w i u v).alloc (.cells #[.int .i64 (i + a), .int .i64 i, .int .i64 0, .int .i64 b, .int .i64 a] 3)
theorem rgb_head {w : World} {i a b : Int} {u v : Value} (hi : 0 ≤ i ∧ i ≤ 1000) (ha : 0 ≤ a ∧ a ≤ 1000) (hb : 0 ≤ b ∧ b ≤ 1000) (ht : Tabs w) :
    Below (w.heap.size + 1) (byW w i u v) (gbI w i u v a b) ∧
    Calls Tryd.prog 31 #[.slice (some ⟨w.heap.size + 1, 0, none⟩) 4 4, .slice (some ⟨w.heap.size + 1 + 1, 0, none⟩) 5 5] (gbI w i u v a b) fun e w' => ∃ v', e = .returned v' ∧ w'.ownsRow (w.heap.size + 1) 5 1 v' ([97, 105, 103, 32] ++ lineL [i + a, i, 0, b, a]).length (([97, 105, 103, 32] ++ lineL [i + a, i, 0, b, a]).map (Value.int .u8)) ∧ Below (w.heap.size + 1) (gbI w i u v a b) w' := by
  have hs1 : (byW w i u v).heap.size = w.heap.size + 1 := by simp [byW]
  have hs2 : (gbC w i u v).heap.size = w.heap.size + 1 + 1 := by simp [gbC, byW]
  have hs3 : (gbI w i u v a b).heap.size = w.heap.size + 1 + 1 + 1 := by simp [gbI, gbC, byW]
  have b1 : Below w.heap.size w (byW w i u v) := (Below.refl _ w).alloc (Nat.le_refl _) _
  have b2 : Below (w.heap.size + 1) (byW w i u v) (gbC w i u v) := (Below.refl _ _).alloc (by omega) _
  have b3 : Below (w.heap.size + 1 + 1) (gbC w i u v) (gbI w i u v a b) := (Below.refl _ _).alloc (by omega) _
  have b23 : Below (w.heap.size + 1) (byW w i u v) (gbI w i u v a b) := b2.trans (b3.mono (by omega))
  have bw : Below w.heap.size w (gbI w i u v a b) := b1.trans (b23.mono (by omega))
  have hin : Ints (gbI w i u v a b) (w.heap.size + 1 + 1) [i + a, i, 0, b, a] := by
    have := heap_alloc_new (gbC w i u v) (.cells #[.int .i64 (i + a), .int .i64 i, .int .i64 0, .int .i64 b, .int .i64 a] 3)
    rw [hs2] at this
    exact this
  have hcell : ∀ j x, (([97, 105, 103, 32] : List Int).map (Value.int .u8))[j]? = some x → (gbI w i u v a b).cell? ⟨w.heap.size + 1, j, none⟩ = some x := fun j x hj => by
    rw [b3.cell (p := ⟨w.heap.size + 1, j, none⟩) (by simp), ← hs1]
    unfold gbC
    rw [World.cell?_alloc_mark]
    simpa using hj
  have hT : ∀ W, Below (w.heap.size + 1) (gbI w i u v a b) W → Lib.TabBelow Tryd.prog (w.heap.size + 1) W "internal/strconv.uint64pow10" .u64 Lib.pow10Tab := fun W hW => ht.at _ (bw.trans (hW.mono (by omega))) (by omega)
  have hn : ∀ n ∈ [i + a, i, 0, b, a], 0 ≤ n ∧ n < 1000000000 := by
    intro n hn
    simp at hn
    omega
  obtain ⟨N, hN⟩ : ∃ N : Nat, i + a = (N : Int) := ⟨(i + a).toNat, by omega⟩
  refine ⟨b23, numbers_any (w.heap.size + 1) _ [97, 105, 103, 32] (i + a) [i, 0, b, a] (w.heap.size + 1 + 1) _ hin (by omega) ?_ (fun n h => by have := hn n (by simp at h ⊢; omega); omega) (by simp) ?_ hT⟩
  · rw [hN]
    rw [hN] at hin
    exact appFirst_ints (w.heap.size + 1) (w.heap.size + 1) 4 N (by omega) [97, 105, 103, 32] rfl (by omega) _ (by omega) hcell (by omega) (hT _ (Below.refl _ _)).here (w.heap.size + 1 + 1) _ hin
  · have := lineL_len [i + a, i, 0, b, a] hn
    rw [List.length_append]
    simp only [List.length_cons, List.length_nil] at this ⊢
    omega

set_option maxRecDepth 8000 in
set_option maxHeartbeats 16000000 in
theorem rgbyt_any (i : Nat) (u v : Value) (ps : List (Int × Int)) (os : List Int) (w : World) (hU : PRow w u ps) (hV : Row w v os) (hi : i ≤ 1000) (hp : ps.length ≤ 1000) (ho : os.length ≤ 1000)
    (hpb : ∀ j, j < ps.length → 0 ≤ (ps.getD j (0, 0)).2 ∧ (ps.getD j (0, 0)).2 ≤ (ps.getD j (0, 0)).1 ∧ (ps.getD j (0, 0)).1 ≤ 2 * ((i : Int) + j + 1) - 1) (hob : ∀ o ∈ os, 0 ≤ o ∧ o < 1000000000) (ht : Tabs w) :
    Calls Tryd.prog 15 #[circV (i : Int) u v] w fun e w' => ∃ v', e = .returned v' ∧ w'.ownsRow w.heap.size 5 1 v' (textB i ps os).length ((textB i ps os).map (Value.int .u8)) ∧ Below w.heap.size w w' := by
  obtain ⟨au, cu, rfl, hcu, hcm, hx⟩ := hU
  obtain ⟨av, cv, rfl, hcv, hcvm, hy⟩ := hV
  unfold maxLen at hcm hcvm
  have HB0 := Lib.hid (show Below w.heap.size w (byW w (i : Int) (.slice au ps.length cu) (.slice av os.length cv)) from (Below.refl _ w).alloc (Nat.le_refl _) _)
  have HBX := Lib.hid (fun W (hW : Below (w.heap.size + 1) (byW w (i : Int) (.slice au ps.length cu) (.slice av os.length cv)) W) => by_box hW)
  have HTT := Lib.hid (fun W (hW : Below (w.heap.size + 1) (byW w (i : Int) (.slice au ps.length cu) (.slice av os.length cv)) W) W' (hW' : Below (w.heap.size + 1) W W') => ht.at (w.heap.size + 1) (HB0.out.trans ((hW.trans hW').mono (by omega))) (by omega))
  have HX : Hid (∀ k, k < ps.length → ∃ b off, au = some ⟨b, off, none⟩ ∧ ∀ W, Below w.heap.size w W → W.cell? ⟨b, off + k * 2, none⟩ = some (.int .i64 (ps.getD k (0, 0)).1) ∧ W.cell? ⟨b, off + k * 2 + 1, none⟩ = some (.int .i64 (ps.getD k (0, 0)).2)) := fun k hk => by
    obtain ⟨b, off, e, hbl, hc⟩ := hx.resolve_left (by omega)
    exact ⟨b, off, e, fun W hW => ⟨(hW.cell (p := ⟨b, off + k * 2, none⟩) hbl).trans (hc k hk).1, (hW.cell (p := ⟨b, off + k * 2 + 1, none⟩) hbl).trans (hc k hk).2⟩⟩
  have HY : Hid (∀ k, k < os.length → ∃ b off, av = some ⟨b, off, none⟩ ∧ ∀ W, Below w.heap.size w W → W.cell? ⟨b, off + k, none⟩ = some (.int .i64 (os.getD k 0))) := fun k hk => by
    obtain ⟨b, off, e, hbl, hc⟩ := hy.resolve_left (by omega)
    exact ⟨b, off, e, fun W hW => (hW.cell (p := ⟨b, off + k, none⟩) hbl).trans (hc k hk)⟩
  have HPB := Lib.hid hpb
  have HOB : Hid (∀ k, k < os.length → 0 ≤ os.getD k 0 ∧ os.getD k 0 < 1000000000) := fun k hk => by
    have := hob _ (List.getElem_mem hk)
    simpa [List.getD, hk] using this
  have HOL : Hid (∀ k, k ≤ os.length → (outsT (os.take k)).length ≤ 11 * 1000) := fun k hk => by
    have := outsT_len (os.take k) (fun o h => hob o (List.mem_of_mem_take h))
    rw [List.length_take] at this
    omega
  have HGL : Hid (∀ k, k ≤ ps.length → (gatesB i 0 (ps.take k)).length ≤ 10 * 1000) := fun k hk => by
    have := gatesB_len i (ps.take k) 0 (by rw [List.length_take]; omega) (fun j hj => by
      have hj2 : j < ps.length := by rw [List.length_take] at hj; omega
      have hj3 : j < k := by rw [List.length_take] at hj; omega
      have := hpb j hj2
      rw [show (ps.take k).getD j (0, 0) = ps.getD j (0, 0) by simp [List.getD, hj3]]
      omega)
    rw [List.length_take] at this
    omega
  have HOS : Hid (∀ k, k < os.length → outsT (os.take (k + 1)) = outsT (os.take k) ++ lineL [os.getD k 0]) := fun k hk => outsT_succ os k hk
  have HGS : Hid (∀ k, k < ps.length → gatesB i 0 (ps.take (k + 1)) = gatesB i 0 (ps.take k) ++ packL (2 * ((i : Int) + (k : Int) + 1) - (ps.getD k (0, 0)).1).toNat ++ packL ((ps.getD k (0, 0)).1 - (ps.getD k (0, 0)).2).toNat) := fun k hk => gatesB_succ i ps k hk
  have hhd := rgb_head (w := w) (i := (i : Int)) (a := (ps.length : Int)) (b := (os.length : Int)) (u := .slice au ps.length cu) (v := .slice av os.length cv) ⟨by omega, by omega⟩ ⟨by omega, by omega⟩ ⟨by omega, by omega⟩ ht
  have HBI := Lib.hid hhd.1
  have HHD := Lib.hid hhd.2
  clear hhd
  have HLI : Hid (([97, 105, 103, 32] ++ lineL [(i : Int) + (ps.length : Int), (i : Int), 0, (os.length : Int), (ps.length : Int)]).length ≤ 100) := by
    have := lineL_len [(i : Int) + (ps.length : Int), (i : Int), 0, (os.length : Int), (ps.length : Int)] (by intro n hn; simp at hn; omega)
    unfold Hid
    rw [List.length_append]
    simp only [List.length_cons, List.length_nil] at this ⊢
    omega
  have HEND : Hid (textB i ps os = [97, 105, 103, 32] ++ lineL [(i : Int) + (ps.length : Int), (i : Int), 0, (os.length : Int), (ps.length : Int)] ++ outsT (os.take os.length) ++ gatesB i 0 (ps.take ps.length)) := by
    unfold Hid textB headB
    rw [List.take_length, List.take_length]
  have HO0 : Hid (outsT (os.take 0) = []) := rfl
  have HG0 : Hid (gatesB i 0 (ps.take 0) = []) := rfl
  clear hx hy hpb hob ht
  generalize [97, 105, 103, 32] ++ lineL [(i : Int) + (ps.length : Int), (i : Int), 0, (os.length : Int), (ps.length : Int)] = hd at *
  generalize ps.length = m at *
  generalize os.length = l at *
  unfold circV
  unfold gbI gbC at HHD HBI
  unfold byW at *
  have hw0s : (w.alloc (.cells #[.int .i64 (i : Int), .slice au m cu, .slice av l cv] 27)).heap.size = w.heap.size + 1 := by simp
  have kc := Lib.run_convert_bytes_const (P := Tryd.prog) (w.alloc (.cells #[.int .i64 (i : Int), .slice au m cu, .slice av l cv] 27)) 23 5 #[.int .u8 97, .int .u8 105, .int .u8 103, .int .u8 32] 4 4 Tryd.underlying23 Tryd.underlying5
  rw [hw0s] at kc
  clear hw0s
  go_enter Tryd.func15, Tryd.ntmps15
  go_wp2_with (go_at_call 31; refine HHD.out.mono ?_; rintro e1 w1 ⟨v1, rfl, hown1, hb1⟩)
  have HO1 := Lib.hid hown1
  have HB1 := Lib.hid (HBI.out.trans hb1)
  clear hown1 hb1 HHD HBI kc
  generalize hw0 : w.alloc (.cells #[.int .i64 (i : Int), .slice au m cu, .slice av l cv] 27) = w0 at *
  have HZ0 : Hid (w0.heap.size = w.heap.size + 1) := by unfold Hid; rw [← hw0]; simp
  clear hw0
  go_loopw [3, 4] (fun bv iv wr => ∃ k : Nat, k ≤ l ∧ iv = .int .i64 (k : Int) ∧ Hid (wr.ownsRow (w.heap.size + 1) 5 1 bv (hd ++ outsT (os.take k)).length ((hd ++ outsT (os.take k)).map (Value.int .u8)) ∧ Below (w.heap.size + 1) w0 wr)) (fun _ iv _ => l - (intOf iv).toNat)
  case atStart => exact ⟨0, Nat.zero_le _, rfl, by rw [HO0.out, List.append_nil]; exact HO1.out, HB1.out⟩
  case round =>
    obtain ⟨k, hk, rfl, HH⟩ := hrel
    obtain ⟨hown, hbr⟩ := HH.out
    clear HH HO1 HB1
    have hsr : w.heap.size + 1 ≤ wr.heap.size := by have := hbr.size; have := HZ0.out; omega
    obtain ⟨⟨g0, g1, g2⟩, hqs⟩ := HBX.out wr hbr
    by_cases hlt : k < l
    · obtain ⟨ab, kb, cb, rfl, HK, HO⟩ := bopen hown
      obtain ⟨b, off, rfl, hcl⟩ := HY.out k hlt
      have y0 := hcl wr (HB0.out.trans (hbr.mono (by omega)))
      have HL1 := Lib.hid (lineNum (w.heap.size + 1) (.slice ab kb cb) kb (hd ++ outsT (os.take k)) (os.getD k 0) [] wr HO.out hsr (by intro n hn; simp only [List.mem_singleton] at hn; subst hn; exact HOB.out k hlt) (by simp) (by rw [List.length_append]; have := HLI.out; have := HOL.out k hk; simp; omega) (fun W hW => HTT.out wr hbr W hW))
      have HS1 : Hid (hd ++ outsT (os.take (k + 1)) = hd ++ outsT (os.take k) ++ lineL [os.getD k 0]) := by unfold Hid; rw [HOS.out k hlt, List.append_assoc]
      have HBR := Lib.hid hbr
      clear hown hbr HTT HBX HX HY hcl HGL HGS HPB
      generalize os.getD k 0 = x at *
      go_wp2_with (go_at_call 31; refine HL1.out.mono ?_; rintro e3 w3 ⟨v3, rfl, hown3, hb3⟩; have HO3 := Lib.hid hown3; have HB3 := Lib.hid (HBR.out.trans hb3); clear hown3 hb3)
      go_roundw
      case rel => exact ⟨k + 1, by omega, by go_num, by rw [HS1.out]; exact HO3.out, HB3.out⟩
      case measure => simp [intOf]; omega
    · have hkl : l = k := by omega
      subst hkl
      obtain ⟨ab, kb, cb, rfl, HK, HO⟩ := bopen hown
      have HB2 := Lib.hid hbr
      clear hown hbr hlt hk HOS HOB HY
      go_wp2_with fail
      clear g0 g1 g2
      have HL3 : Hid ((hd ++ outsT (os.take l)).length ≤ 20000) := by unfold Hid; rw [List.length_append]; have := HLI.out; have := HOL.out l (Nat.le_refl _); omega
      have HTE : Hid (textB i ps os = hd ++ outsT (os.take l) ++ gatesB i 0 (ps.take m)) := HEND.out
      clear HEND HLI HOL
      generalize hd ++ outsT (os.take l) = hi3 at *
      go_loopw [3, 5] (fun bv iv wr => ∃ k : Nat, k ≤ m ∧ iv = .int .i64 (k : Int) ∧ Hid (wr.ownsRow (w.heap.size + 1) 5 1 bv (hi3 ++ gatesB i 0 (ps.take k)).length ((hi3 ++ gatesB i 0 (ps.take k)).map (Value.int .u8)) ∧ Below (w.heap.size + 1) w0 wr)) (fun _ iv _ => m - (intOf iv).toNat)
      case atStart => exact ⟨0, Nat.zero_le _, rfl, by rw [HG0.out, List.append_nil, ← HK.out]; exact HO.out, HB2.out⟩
      case round =>
        obtain ⟨k, hk, rfl, HH⟩ := hrel
        obtain ⟨hown, hbr⟩ := HH.out
        clear HH HO HB2 HK
        rename World => wr
        have hsr : w.heap.size + 1 ≤ wr.heap.size := by have := hbr.size; have := HZ0.out; omega
        obtain ⟨⟨g0, g1, g2⟩, hqs⟩ := HBX.out wr hbr
        by_cases hlt : k < m
        · obtain ⟨ab, kb, cb, rfl, HK, HO⟩ := bopen hown
          obtain ⟨b, off, rfl, hcl⟩ := HX.out k hlt
          obtain ⟨y0, y1⟩ := hcl wr (HB0.out.trans (hbr.mono (by omega)))
          obtain ⟨p0, p1, p2⟩ := HPB.out k hlt
          have hgs := HGS.out k hlt
          have HLX : Hid ((hi3 ++ gatesB i 0 (ps.take k)).length ≤ 40000) := by unfold Hid; rw [List.length_append]; have := HL3.out; have := HGL.out k hk; omega
          have HFX0 : Hid (∀ W, Below (w.heap.size + 1) wr W → W.cell? ⟨w.heap.size, 1, none⟩ = some (.slice (some ⟨b, off, none⟩) m cu) ∧ W.cell? ⟨b, off + k * 2, none⟩ = some (.int .i64 (ps.getD k (0, 0)).1) ∧ W.cell? ⟨b, off + k * 2 + 1, none⟩ = some (.int .i64 (ps.getD k (0, 0)).2)) := fun W hW => by
            obtain ⟨⟨e0, e1, e2⟩, _⟩ := HBX.out W (hbr.trans hW)
            obtain ⟨f0, f1⟩ := hcl W (HB0.out.trans ((hbr.trans hW).mono (by omega)))
            exact ⟨e1, f0, f1⟩
          generalize (ps.getD k (0, 0)).1 = x at *
          generalize (ps.getD k (0, 0)).2 = y at *
          obtain ⟨D1, hD1⟩ : ∃ D1 : Nat, 2 * ((i : Int) + (k : Int) + 1) - x = (D1 : Int) := ⟨_, (Int.toNat_of_nonneg (by omega)).symm⟩
          obtain ⟨D2, hD2⟩ : ∃ D2 : Nat, x - y = (D2 : Int) := ⟨_, (Int.toNat_of_nonneg (by omega)).symm⟩
          rw [hD1, hD2, Int.toNat_natCast, Int.toNat_natCast] at hgs
          have HS1 : Hid (hi3 ++ gatesB i 0 (ps.take (k + 1)) = hi3 ++ gatesB i 0 (ps.take k) ++ packL D1 ++ packL D2) := by unfold Hid; rw [hgs]; simp
          have hd1 : D1 < 1000000000 := by omega
          have hd2 : D2 < 1000000000 := by omega
          have HP1 := Lib.hid (packL_len9 hd1)
          have HP2 := Lib.hid (packL_len9 hd2)
          obtain ⟨S, hS⟩ : ∃ S : Int, (i : Int) + (k : Int) = S := ⟨_, rfl⟩
          obtain ⟨P, hP⟩ : ∃ P : Int, S + 1 = P := ⟨_, rfl⟩
          have hw1 : IntKind.i64.wrap ((i : Int) + (k : Int)) = S := by rw [IntWalk.i64_in _ (by omega)]; exact hS
          have hw2 : IntKind.i64.wrap (S + 1) = P := by rw [IntWalk.i64_in _ (by omega)]; exact hP
          obtain ⟨Q, hQ⟩ : ∃ Q : Int, 2 * P = Q := ⟨_, rfl⟩
          have hw3 : IntKind.i64.wrap (2 * P) = Q := by rw [IntWalk.i64_in _ (by omega)]; exact hQ
          have hw4 : IntKind.i64.wrap (Q - x) = (D1 : Int) := by rw [IntWalk.i64_in _ (by omega)]; omega
          have hw5 : IntKind.i64.wrap (x - y) = (D2 : Int) := by rw [IntWalk.i64_in _ (by omega)]; exact hD2
          have HL1 : Hid (∀ W, Below wr.heap.size wr W → Calls Tryd.prog 32 #[.slice ab kb cb, .int .i64 (D1 : Int)] W fun e w' => ∃ v', e = .returned v' ∧ w'.ownsRow (w.heap.size + 1) 5 1 v' (hi3 ++ gatesB i 0 (ps.take k) ++ packL D1).length ((hi3 ++ gatesB i 0 (ps.take k) ++ packL D1).map (Value.int .u8)) ∧ Below (w.heap.size + 1) wr w') := fun W hW => by
            refine (small8_any (w.heap.size + 1) (.slice ab kb cb) kb (hi3 ++ gatesB i 0 (ps.take k)) D1 W (own_keep HO.out hW) (Nat.le_trans hsr hW.size) hd1 (by rw [List.length_append]; have := HLX.out; have := HP1.out; omega)).mono ?_
            rintro e w' ⟨v', h1, h2, h3⟩
            exact ⟨v', h1, h2, (hW.mono hsr).trans h3⟩
          have HBN : Hid (Below (w.heap.size + 1) wr wr) := Below.refl _ _
          have HBW : Hid (Below wr.heap.size wr wr) := Below.refl _ _
          have HBR := Lib.hid hbr
          clear hown hbr HTT HBX HX hcl HO HPB HGS HGL hgs hS hP hQ hD1 hD2 p0 p1 p2
          generalize gatesB i 0 (ps.take k) = gk at *
          go_wp2_with fail
          go_region_held3 (fun W => W.cell? ⟨w.heap.size, 1, none⟩ = some (.slice (some ⟨b, off, none⟩) m cu) ∧ W.cell? ⟨b, off + k * 2, none⟩ = some (.int .i64 x) ∧ W.cell? ⟨b, off + k * 2 + 1, none⟩ = some (.int .i64 y)) (first | exact HFX0.out _ HBN.out | exact HFX0.out _ HBN.out.drew | exact hs3 | exact hs4) (first
            | (go_at_call_of 32 (Value.int IntKind.i64 (D1 : Int)); refine (HL1.out _ (by first | exact HBW.out | exact HBW.out.drew)).mono ?_; rintro e3 w3 ⟨v3, rfl, hown3, hb3⟩; have hs3 := HFX0.out _ hb3; have HS3 : Hid (w.heap.size + 1 ≤ w3.heap.size) := Nat.le_trans hsr hb3.size; have HB3 := Lib.hid hb3; have HL3x : Hid ((hi3 ++ gk ++ packL D1).length ≤ 50000) := (by have := HLX.out; have := HP1.out; unfold Hid; rw [List.length_append]; omega); obtain ⟨a3, k3, c3, rfl, HK3, HO3⟩ := bopen hown3; clear hown3 hb3)
            | (go_at_call_of 32 (Value.int IntKind.i64 (D2 : Int)); refine (small8_any (w.heap.size + 1) _ k3 (hi3 ++ gk ++ packL D1) D2 w3 HO3.out HS3.out hd2 (by rw [List.length_append]; have := HL3x.out; have := HP2.out; omega)).mono ?_; rintro e4 w4 ⟨v4, rfl, hown4, hb4⟩; have hs4 := HFX0.out _ (HB3.out.trans hb4); have HB4 := Lib.hid (HBR.out.trans (HB3.out.trans hb4)); obtain ⟨a4, k4, c4, rfl, HK4, HO4⟩ := bopen hown4; clear hown4 hb4))
          all_goals
            go_wp2_with fail
            go_roundw
            case rel => exact ⟨k + 1, by omega, by go_num, by rw [HS1.out, ← HK4.out]; exact HO4.out, HB4.out⟩
            case measure => simp [intOf]; omega
        · have hkm : m = k := by omega
          subst hkm
          obtain ⟨ab, kb, cb, rfl, HK, HO⟩ := bopen hown
          have HB2 := Lib.hid hbr
          clear hown hbr hlt hk HX
          go_wp2_with fail
          go_ret
          rw [HTE.out]
          refine ⟨_, rfl, ?_, HB0.out.trans (HB2.out.mono (by omega))⟩
          rw [← HK.out]
          exact own_base HO.out (by omega)
end Go.Proofs.YtfkodpglgeghlaaDoor

namespace Go.Proofs.YtfkodpglgeghlaaDoor
open Go.RowKit

set_option maxRecDepth 8000 in
set_option maxHeartbeats 4000000 in
theorem lawBg_out (A : Nat → Addr) (i : Int) (a1 : Option Addr) (c1 m1 : Nat) (a2 : Option Addr) (c2 m2 : Nat) (a3 : Option Addr) (c3 m3 : Nat) (w : World) (hS : Sents w A) (ht : Tabs w) (ho : 120 < m1 ∨ 30 < m2 ∨ 40 < m3 ∨ i < 0 ∨ 40 < i) :
    Calls Tryd.prog 3 #[.int .i64 i, .slice a1 m1 c1, .slice a2 m2 c2, .slice a3 m3 c3] w fun e w' => e = .returned (.bool true) ∧ Below w.heap.size w w' := by
  have HF := Lib.hid (first12_any A w hS ht)
  clear hS ht
  by_cases d1 : 120 < m1
  · have d1' : decide ((120 : Int) < (m1 : Int)) = true := decide_eq_true (by omega)
    clear ho
    go_enter Tryd.func3, Tryd.ntmps3
    go_wp2_with (go_at_call 9; refine HF.out.mono ?_; rintro e w1 ⟨rfl, hb1⟩)
    go_ret
    exact ⟨rfl, hb1⟩
  have d1' : decide ((120 : Int) < (m1 : Int)) = false := decide_eq_false (by omega)
  by_cases d2 : 30 < m2
  · have d2' : decide ((30 : Int) < (m2 : Int)) = true := decide_eq_true (by omega)
    clear ho
    go_enter Tryd.func3, Tryd.ntmps3
    go_wp2_with (go_at_call 9; refine HF.out.mono ?_; rintro e w1 ⟨rfl, hb1⟩)
    go_ret
    exact ⟨rfl, hb1⟩
  have d2' : decide ((30 : Int) < (m2 : Int)) = false := decide_eq_false (by omega)
  by_cases d3 : 40 < m3
  · have d3' : decide ((40 : Int) < (m3 : Int)) = true := decide_eq_true (by omega)
    clear ho
    go_enter Tryd.func3, Tryd.ntmps3
    go_wp2_with (go_at_call 9; refine HF.out.mono ?_; rintro e w1 ⟨rfl, hb1⟩)
    go_ret
    exact ⟨rfl, hb1⟩
  have d3' : decide ((40 : Int) < (m3 : Int)) = false := decide_eq_false (by omega)
  by_cases d4 : i < 0
  · clear ho
    go_enter Tryd.func3, Tryd.ntmps3
    go_wp2_with (go_at_call 9; refine HF.out.mono ?_; rintro e w1 ⟨rfl, hb1⟩)
    go_ret
    exact ⟨rfl, hb1⟩
  · have d5 : 40 < i := by omega
    clear ho
    go_enter Tryd.func3, Tryd.ntmps3
    go_wp2_with (go_at_call 9; refine HF.out.mono ?_; rintro e w1 ⟨rfl, hb1⟩)
    go_ret
    exact ⟨rfl, hb1⟩

theorem RightC.bdG {i : Nat} {ps : List (Int × Int)} {os : List Int} (h : RightC i ps os) : (∀ j, j < ps.length → 0 ≤ (ps.getD j (0, 0)).2 ∧ (ps.getD j (0, 0)).2 ≤ (ps.getD j (0, 0)).1 ∧ (ps.getD j (0, 0)).1 ≤ 2 * ((i : Int) + j + 1) - 1) ∧ ∀ o ∈ os, 0 ≤ o ∧ o < 1000000000 := ⟨h.2.2.1, h.bd.2⟩
/-- What Read answers where it does not take the text. -/
def BadG (A : Nat → Addr) (w : World) (k : Int) (r : Ending) (w' : World) : Prop :=
  (∃ a c a' c' ev, r = .returned (.tuple #[circV 0 (.slice a 0 c) (.slice a' 0 c'), ev]) ∧ OutF A w.heap.size w' ev (some (false, k))) ∧ Below w.heap.size w w'
theorem read_badG {A : Nat → Addr} {w : World} {P : Program} {f : Nat} {args : Array Value} {R : Res} {k : Int} (h : Calls P f args w (ReadP A w R)) (hR : R = badC (false, k)) : Calls P f args w (BadG A w k) := by
  refine h.mono ?_
  rintro e w' ⟨⟨u, v, ev, h1, h2, h3, h4⟩, h5⟩
  rw [hR] at h1 h2 h3 h4
  obtain ⟨a, c, rfl, _⟩ := h2
  obtain ⟨a', c', rfl, _⟩ := h3
  exact ⟨⟨a, c, a', c', ev, h1, h4⟩, h5⟩
theorem bts_x {zs : List Int} (h : Bts zs) : Bts (120 :: zs) := fun x hx => by
  rcases List.mem_cons.1 hx with rfl | hx
  · omega
  · exact h x hx
theorem bts_cB {zs : List Int} (h : Bts zs) : Bts (99 :: 10 :: zs) := fun x hx => by
  rcases List.mem_cons.1 hx with rfl | hx
  · omega
  · rcases List.mem_cons.1 hx with rfl | hx
    · omega
    · exact h x hx
theorem tail_cellsB {W : World} {a : Option Addr} {c n : Nat} {zs : List Int} (h : RowGAt (Value.int .u8) 0 W a c zs) (hn : zs.length = n) : n = 0 ∨ ∃ ad, a = some ad ∧ ∀ j u, (zs.map (Value.int .u8))[j]? = some u → W.cell? (ad.add j) = some u := by
  obtain ⟨_, _, h3⟩ := h
  rcases h3 with h3 | ⟨b, off, e, _, hc⟩
  · exact .inl (by omega)
  · refine .inr ⟨_, e, fun j u hj => ?_⟩
    have hjl : j < zs.length := by
      have := (List.getElem?_eq_some_iff.1 hj).1
      simpa using this
    rw [show (⟨b, off, none⟩ : Addr).add j = ⟨b, off + j, none⟩ by unfold Addr.add; split <;> simp_all, hc j hjl]
    rw [List.getElem?_map] at hj
    simpa [List.getD, hjl] using hj

set_option maxRecDepth 8000 in
set_option maxHeartbeats 8000000 in
theorem lawBg_in (A : Nat → Addr) (N : Nat) (a1 : Option Addr) (c1 : Nat) (ls : List Int) (a2 : Option Addr) (c2 : Nat) (ts : List Int) (a3 : Option Addr) (c3 : Nat) (zs : List Int) (w : World) (hS : Sents w A) (ht : Tabs w)
    (hl : RowAt w a1 c1 ls) (hlb : ∀ y ∈ ls, in64 y) (hts : RowAt w a2 c2 ts) (htb : ∀ y ∈ ts, in64 y) (hz : RowGAt (Value.int .u8) 0 w a3 c3 zs) (hzb : Bts zs) (e1 : ¬ 120 < ls.length) (e2 : ¬ 30 < ts.length) (e3 : ¬ 40 < zs.length) (e5 : ¬ (40 : Int) < (N : Int)) :
    Calls Tryd.prog 3 #[.int .i64 (N : Int), .slice a1 ls.length c1, .slice a2 ts.length c2, .slice a3 zs.length c3] w fun e w' => e = .returned (.bool true) ∧ Below w.heap.size w w' := by
  have d1 : decide ((120 : Int) < (ls.length : Int)) = false := decide_eq_false (by omega)
  have d2 : decide ((30 : Int) < (ts.length : Int)) = false := decide_eq_false (by omega)
  have d3 : decide ((40 : Int) < (zs.length : Int)) = false := decide_eq_false (by omega)
  have d4 : ¬ (N : Int) < 0 := by omega
  have HF := Lib.hid (first12_any A w hS ht)
  have HMK := Lib.hid (fun W (hW : Below w.heap.size w W) => mkc_any N (.slice a1 ls.length c1) (.slice a2 ts.length c2) ls ts W (Row.keep ⟨a1, c1, rfl, hl⟩ hW) (Row.keep ⟨a2, c2, rfl, hts⟩ hW) (by omega) (by omega) (by omega) hlb htb)
  have HSN := Lib.hid (fun W (hW : Below w.heap.size w W) => hS.keep hW)
  have HTN := Lib.hid (fun W (hW : Below w.heap.size w W) => ht.keep hW)
  have HZ := Lib.hid (fun W (hW : Below w.heap.size w W) => RowGAt.keep hz hW)
  have HZB := Lib.hid hzb
  have HE := Lib.hid (And.intro e1 (And.intro e2 (And.intro e3 e5)))
  clear hS ht hl hlb hts htb hz hzb e1 e2 e3
  generalize hn1 : ls.length = n1 at *
  generalize hn2 : ts.length = n2 at *
  generalize hn3 : zs.length = n3 at *
  have HN3 := Lib.hid hn3
  clear hn1 hn2 hn3
  go_enter Tryd.func3, Tryd.ntmps3
  go_wp2_with fail
  refine HF.out.mono ?_
  rintro e w1 ⟨rfl, hb1⟩
  have HB1 := Lib.hid hb1
  clear hb1 HF
  go_wp2_with fail
  refine (HMK.out _ HB1.out).mono ?_
  rintro e w2 ⟨⟨u, v, ps, os, rfl, hU, hV, hR, hpl, hol⟩, hb2⟩
  have HB2 := Lib.hid (bb_step HB1.out hb2)
  have HR := Lib.hid hR
  have HLN : Hid ((textB N ps os).length ≤ 3000) := textB_len hR (by omega) (by have := HE.out; omega) (by have := HE.out; omega)
  have HPO : Hid (ps.length ≤ 1000 ∧ os.length ≤ 1000) := by unfold Hid; have := HE.out; omega
  obtain ⟨au, cu, rfl, hu⟩ := hU
  obtain ⟨av, cv, rfl, hv⟩ := hV
  have HC := Lib.hid (Cq.new (n := (N : Int)) 27 (⟨au, cu, rfl, hu⟩ : PRow w2 (.slice au ps.length cu) ps) (⟨av, cv, rfl, hv⟩ : Row w2 (.slice av os.length cv) os))
  have HB3 := Lib.hid (bb_step HB2.out ((Below.refl _ w2).alloc (Nat.le_refl _) (.cells #[.int .i64 (N : Int), .slice au ps.length cu, .slice av os.length cv] 27)))
  clear hb2 hu hv hR HMK HB1 hpl hol
  unfold circV
  go_wp2_with fail
  have hbd := HR.out.bdG
  refine (gbyt_any N _ _ ps os _ HC.out.U HC.out.V (by omega) HPO.out.1 HPO.out.2 hbd.1 hbd.2 (HTN.out _ HB3.out)).mono ?_
  rintro e w4 ⟨vb, rfl, hown4, hb4⟩
  obtain ⟨ab, cb, rfl, hrw4⟩ := text_row hown4
  have HRW4 := Lib.hid hrw4
  have HB4 := Lib.hid (bb_step HB3.out hb4)
  have HC4 := Lib.hid (HC.out.keep hb4)
  have HBT := Lib.hid (textB_bts N ps os)
  have HRB := Lib.hid (readG_back N ps os HR.out)
  have HRC := Lib.hid (readG_c N ps os zs HR.out)
  have HRX := Lib.hid (readG_x N ps os zs HR.out)
  have HRY := Lib.hid (fun u v W (hW : Below w.heap.size w W) (hU : PRow W u ps) (hV : Row W v os) => rgbyt_any N u v ps os W hU hV (by omega) HPO.out.1 HPO.out.2 hbd.1 hbd.2 (HTN.out _ hW))
  clear hown4 hb4 hrw4 hbd HC HB3 HR HPO
  generalize textB N ps os = T at *
  have HRD := Lib.hid (fun W v (hW : Below w.heap.size w W) (hv : RowG (Value.int .u8) 0 W v T) => read_got (greadA_any A v T W (HSN.out W hW) hv HBT.out (by have := HLN.out; omega)) HRB.out)
  have HRE := Lib.hid (fun W v (hW : Below w.heap.size w W) (hv : RowG (Value.int .u8) 0 W v (T ++ 99 :: 10 :: zs)) => read_got (greadA_any A v (T ++ 99 :: 10 :: zs) W (HSN.out W hW) hv (HBT.out.append (bts_cB HZB.out)) (by rw [List.length_append]; simp only [List.length_cons]; have := HLN.out; have := HN3.out; have := HE.out; omega)) (HRC.out))
  have HRF := Lib.hid (fun W v (hW : Below w.heap.size w W) (hv : RowG (Value.int .u8) 0 W v (T ++ 120 :: zs)) => read_badG (greadA_any A v (T ++ 120 :: zs) W (HSN.out W hW) hv (HBT.out.append (bts_x HZB.out)) (by rw [List.length_append]; simp only [List.length_cons]; have := HLN.out; have := HN3.out; have := HE.out; omega)) HRX.out)
  clear HRB HRC HRX
  generalize hnT : T.length = nT at *
  have HNT := Lib.hid hnT
  clear hnT
  go_wp2_with fail
  refine (HRD.out _ _ HB4.out HRW4.out).mono ?_
  rintro e w5 ⟨⟨u5, v5, rfl, hu5, hv5⟩, hb5⟩
  obtain ⟨au5, cu5, rfl, hu5'⟩ := hu5
  obtain ⟨av5, cv5, rfl, hv5'⟩ := hv5
  have HX5 := Lib.hid (Cq.new (n := (N : Int)) 27 (⟨au5, cu5, rfl, hu5'⟩ : PRow w5 (.slice au5 ps.length cu5) ps) (⟨av5, cv5, rfl, hv5'⟩ : Row w5 (.slice av5 os.length cv5) os))
  have hal5 : Below w5.heap.size w5 (w5.alloc (.cells #[.int .i64 (N : Int), .slice au5 ps.length cu5, .slice av5 os.length cv5] 27)) := (Below.refl _ w5).alloc (Nat.le_refl _) _
  have HC5 := Lib.hid ((HC4.out.keep hb5).keep hal5)
  have HRW5 := Lib.hid ((HRW4.out.keep hb5).keep hal5)
  have HB5 := Lib.hid (bb_step (bb_step HB4.out hb5) hal5)
  have HSZ5 : Hid ((w5.alloc (.cells #[.int .i64 (N : Int), .slice au5 ps.length cu5, .slice av5 os.length cv5] 27)).heap.size = w5.heap.size + 1) := by unfold Hid; simp
  clear hu5' hv5' hb5 hal5 HC4 HRW4 HB4 HRD
  unfold circV
  have HCP := Lib.hid (copyB_any _ T _ HRW5.out (by have := HLN.out; have := HNT.out; omega))
  have hlT : nT ≤ 3000 := HLN.out
  go_wp2_with fail
  refine HCP.out.mono ?_
  rintro e w6 ⟨⟨v6, rfl, hown6⟩, hb6⟩
  have HKP : Hid (∀ W, Below (w5.heap.size + 1) w6 W → Cq W w2.heap.size N (.slice au ps.length cu) (.slice av os.length cv) ps os ∧ Cq W w5.heap.size N (.slice au5 ps.length cu5) (.slice av5 os.length cv5) ps os ∧ RowG (Value.int .u8) 0 W (.slice ab nT cb) T ∧ Below w.heap.size w W) := fun W hW => by
    have hb := hb6.trans (by rw [HSZ5.out]; exact hW)
    exact ⟨HC5.out.keep hb, HX5.out.keep hb, HRW5.out.keep hb, bb_step HB5.out hb⟩
  rw [HNT.out, HSZ5.out] at hown6
  have HO6 := Lib.hid hown6
  have hs6 : w5.heap.size + 1 ≤ w6.heap.size := by have := hb6.size; rw [HSZ5.out] at this; exact this
  obtain ⟨a6, c6, rfl, _, _⟩ := own_shape hown6
  clear hown6 hb6 HC5 HX5 HRW5 HB5 HCP
  have hz3 : n3 ≤ 40 := by have := HE.out; omega
  go_wp2_with (first
    | (at_builtin; refine wpList_appStr rfl _ _ rfl w6 (w5.heap.size + 1) _ nT T [99, 10] (by intro x hx; simp at hx; omega) HO6.out hs6 (by simp; omega) rfl rfl ?_; intro v7 w7 hown7 hb7; have HO7 := Lib.hid hown7; have HB7 := Lib.hid hb7; have hs7 : w5.heap.size + 1 ≤ w7.heap.size := Nat.le_trans hs6 hb7.size; have HZ7 := Lib.hid (HZ.out _ (HKP.out _ hb7).2.2.2); obtain ⟨a7, c7, rfl, _, _⟩ := own_shape hown7; clear hown7 hb7)
    | (at_builtin; refine wpList_appC 23 5 (.int .u8 0) 1 1 Tryd.underlying23 infoU8 rfl (by decide) (by decide) rfl _ _ rfl w7 (w5.heap.size + 1) _ _ _ a3 n3 c3 (zs.map (Value.int .u8)) HO7.out hs7 (by simp; omega) (by rw [List.length_map, HN3.out]; omega) (tail_cellsB HZ7.out HN3.out) (fun u hu => by obtain ⟨z, _, rfl⟩ := List.mem_map.1 hu; rfl) rfl rfl ?_; intro v8 w8 hown8 hap8; have HB8 := Lib.hid (HB7.out.trans hap8.below); have HO8 := Lib.hid hown8; obtain ⟨a8, c8, rfl, _, _⟩ := own_shape hown8; clear hown8 hap8))
  have hrow8 : RowG (Value.int .u8) 0 w8 (.slice a8 (nT + 2 + n3) c8) (T ++ 99 :: 10 :: zs) := by
    have h8 := HO8.out
    rw [← List.map_append, show (T ++ [99, 10]) ++ zs = T ++ 99 :: 10 :: zs by simp] at h8
    exact own_rowG h8
  refine (HRE.out w8 _ (HKP.out _ HB8.out).2.2.2 hrow8).mono ?_
  rintro e w9 ⟨⟨u9, v9, rfl, hu9, hv9⟩, hb9⟩
  obtain ⟨au9, cu9, rfl, hu9'⟩ := hu9
  obtain ⟨av9, cv9, rfl, hv9'⟩ := hv9
  have hy9 := Cq.new (n := (N : Int)) 27 (⟨au9, cu9, rfl, hu9'⟩ : PRow w9 (.slice au9 ps.length cu9) ps) (⟨av9, cv9, rfl, hv9'⟩ : Row w9 (.slice av9 os.length cv9) os)
  have hs8 := HB8.out.size
  have hby : Below (w5.heap.size + 1) w6 (w9.alloc (.cells #[.int .i64 (N : Int), .slice au9 ps.length cu9, .slice av9 os.length cv9] 27)) := HB8.out.trans ((bb_step hb9 ((Below.refl _ w9).alloc (Nat.le_refl _) _)).mono (by omega))
  have hsy : w5.heap.size + 1 ≤ (w9.alloc (.cells #[.int .i64 (N : Int), .slice au9 ps.length cu9, .slice av9 os.length cv9] 27)).heap.size := Nat.le_trans hs6 hby.size
  generalize hwy : w9.alloc (.cells #[.int .i64 (N : Int), .slice au9 ps.length cu9, .slice av9 os.length cv9] 27) = wy at *
  have HK9 : Hid (∀ W, Below wy.heap.size wy W → (Cq W w2.heap.size N (.slice au ps.length cu) (.slice av os.length cv) ps os ∧ Cq W w5.heap.size N (.slice au5 ps.length cu5) (.slice av5 os.length cv5) ps os ∧ Cq W w9.heap.size N (.slice au9 ps.length cu9) (.slice av9 os.length cv9) ps os) ∧ RowG (Value.int .u8) 0 W (.slice ab nT cb) T ∧ Below w.heap.size w W) := fun W hW => by
    obtain ⟨h1, h2, h3, h4⟩ := HKP.out W (hby.trans (hW.mono hsy))
    exact ⟨⟨h1, h2, hy9.keep hW⟩, h3, h4⟩
  clear hu9' hv9' hb9 hby hsy hy9 hrow8 hs8 HO8 HB8 HO7 HB7 HO6 HKP HZ7 hs6
  unfold circV
  have HCP := Lib.hid (copyB_any _ T _ (HK9.out wy (Below.refl _ _)).2.1 (by have := HLN.out; have := HNT.out; omega))
  go_wp2_with fail
  clear hwy
  refine HCP.out.mono ?_
  rintro e wa ⟨⟨va, rfl, howna⟩, hba⟩
  rw [HNT.out] at howna
  have hsa : wy.heap.size ≤ wa.heap.size := hba.size
  obtain ⟨aa, ca, rfl, _, _⟩ := own_shape howna
  have HOb := Lib.hid howna
  have HBb := Lib.hid hba
  clear howna HCP hba
  go_wp2_with (first
    | (at_builtin; refine wpList_app1G (Value.int .u8) 23 5 (.int .u8 0) 1 Tryd.underlying23 infoU8 rfl (by decide) rfl _ _ rfl wa wy.heap.size _ _ _ 120 rfl HOb.out hsa (by omega) ?_ rfl ?_; rfl; intro vc wc hownc hapc; have HBc := Lib.hid (HBb.out.trans hapc.below); have HOc := Lib.hid hownc; have hsc : wy.heap.size ≤ wc.heap.size := HBc.out.size; have HZc := Lib.hid (HZ.out _ (HK9.out _ HBc.out).2.2); obtain ⟨ac, cc, rfl, _, _⟩ := own_shape hownc; clear hownc hapc)
    | (at_builtin; refine wpList_appC 23 5 (.int .u8 0) 1 1 Tryd.underlying23 infoU8 rfl (by decide) (by decide) rfl _ _ rfl wc wy.heap.size _ _ _ a3 n3 c3 (zs.map (Value.int .u8)) HOc.out hsc (by omega) (by rw [List.length_map, HN3.out]; omega) (tail_cellsB HZc.out HN3.out) (fun u hu => by obtain ⟨z, _, rfl⟩ := List.mem_map.1 hu; rfl) rfl rfl ?_; intro vd wd hownd hapd; have HBd := Lib.hid (HBc.out.trans hapd.below); have HOd := Lib.hid hownd; obtain ⟨ad, cd, rfl, _, _⟩ := own_shape hownd; clear hownd hapd))
  have hrowd : RowG (Value.int .u8) 0 wd (.slice ad (nT + 1 + n3) cd) (T ++ 120 :: zs) := by
    have h8 := HOd.out
    rw [← List.map_append, show (T ++ [120]) ++ zs = T ++ 120 :: zs by simp] at h8
    exact own_rowG h8
  refine (HRF.out wd _ (HK9.out _ HBd.out).2.2 hrowd).mono ?_
  rintro e we ⟨⟨xe, ye, ze, te, eve, rfl, hOe⟩, hbe⟩
  have HEe := Lib.hid (hOe.err (HSN.out _ (HK9.out _ (bb_step HBd.out hbe)).2.2))
  have hal : Below we.heap.size we (we.alloc (.cells #[.int .i64 0, .slice xe 0 ye, .slice ze 0 te] 27)) := (Below.refl _ we).alloc (Nat.le_refl _) _
  have hbf := bb_step (bb_step HBd.out hbe) hal
  have hef := HEe.out.keep hal
  generalize hA : we.alloc (.cells #[.int .i64 0, .slice xe 0 ye, .slice ze 0 te] 27) = wf at *
  have HKF : Hid (∀ W, Below wf.heap.size wf W → ((Cq W w2.heap.size N (.slice au ps.length cu) (.slice av os.length cv) ps os ∧ Cq W w5.heap.size N (.slice au5 ps.length cu5) (.slice av5 os.length cv5) ps os ∧ Cq W w9.heap.size N (.slice au9 ps.length cu9) (.slice av9 os.length cv9) ps os) ∧ RowG (Value.int .u8) 0 W (.slice ab nT cb) T ∧ Below w.heap.size w W) ∧ ErrAs W eve 101 true (nT : Int)) := fun W hW => ⟨HK9.out W (bb_step hbf hW), hef.keep hW⟩
  clear hal hbf hef hbe hOe HEe HK9 HBd HOd HBc HOc HZc HBb HOb hrowd hsa hsc HRF HRE HZ HZB HSN
  unfold circV
  obtain ⟨q0, q1, q2, _, _, q3⟩ := (HKF.out wf (Below.refl _ _)).1.1.1
  go_wp2_with fail
  clear hA
  refine (HRY.out _ _ _ (HKF.out wf (Below.refl _ _)).1.2.2 (HKF.out wf (Below.refl _ _)).1.1.1.U (HKF.out wf (Below.refl _ _)).1.1.1.V).mono ?_
  rintro e w10 ⟨v10, rfl, hown10, hb10⟩
  have HR10 := Lib.hid (own_rowG (d := (0 : Int)) hown10)
  have HB10 := Lib.hid hb10
  obtain ⟨a10, c10, rfl, _, _⟩ := own_shape hown10
  have HSB := Lib.hid (sameBytes_any _ _ T T w10 (HKF.out _ hb10).1.2.1 HR10.out)
  simp only [decide_true] at HSB
  clear hown10 hb10 q0 q1 q2 q3
  go_wp2_with fail
  refine HSB.out.mono ?_
  rintro e w11 ⟨rfl, hd11⟩
  have HB11 := Lib.hid (bb_step HB10.out (below_drawsG hd11))
  clear hd11
  obtain ⟨q0, q1, q2, _, _, q3⟩ := (HKF.out _ HB11.out).1.1.1
  obtain ⟨x0, x1, x2, _, _, x3⟩ := (HKF.out _ HB11.out).1.1.2.1
  go_wp2_with fail
  refine (sameCir_one (N : Int) _ _ _ _ ps os w11 (HKF.out _ HB11.out).1.1.2.1.U (HKF.out _ HB11.out).1.1.2.1.V (HKF.out _ HB11.out).1.1.1.U (HKF.out _ HB11.out).1.1.1.V).mono ?_
  rintro e w12 ⟨rfl, hb12⟩
  have HB12 := Lib.hid (bb_step HB11.out hb12)
  clear hb12 q0 q1 q2 q3 x0 x1 x2 x3
  obtain ⟨q0, q1, q2, _, _, q3⟩ := (HKF.out _ HB12.out).1.1.1
  obtain ⟨x0, x1, x2, _, _, x3⟩ := (HKF.out _ HB12.out).1.1.2.2
  go_wp2_with fail
  refine (sameCir_one (N : Int) _ _ _ _ ps os w12 (HKF.out _ HB12.out).1.1.2.2.U (HKF.out _ HB12.out).1.1.2.2.V (HKF.out _ HB12.out).1.1.1.U (HKF.out _ HB12.out).1.1.1.V).mono ?_
  rintro e w13 ⟨rfl, hb13⟩
  have HB13 := Lib.hid (bb_step HB12.out hb13)
  clear hb13 q0 q1 q2 q3 x0 x1 x2 x3
  go_wp2_with fail
  refine (placed_any 101 (nT : Int) w13 (by omega)).mono ?_
  rintro e w14 ⟨rfl, hb14⟩
  have HB14 := Lib.hid (bb_step HB13.out hb14)
  clear hb14
  go_wp2_with fail
  refine (see_yes eve 101 true (nT : Int) w14 (HKF.out _ HB14.out).2).mono ?_
  rintro e w15 ⟨rfl, hb15⟩
  have HB15 := Lib.hid (HKF.out _ (bb_step HB14.out hb15)).1.2.2
  clear hb15
  go_wp2_with fail
  go_ret
  exact ⟨rfl, HB15.out⟩
theorem lawBg_any (A : Nat → Addr) (i : Int) (a1 : Option Addr) (c1 : Nat) (ls : List Int) (a2 : Option Addr) (c2 : Nat) (ts : List Int) (a3 : Option Addr) (c3 : Nat) (zs : List Int) (w : World) (hS : Sents w A) (ht : Tabs w)
    (hl : RowAt w a1 c1 ls) (hlb : ∀ y ∈ ls, in64 y) (hts : RowAt w a2 c2 ts) (htb : ∀ y ∈ ts, in64 y) (hz : RowGAt (Value.int .u8) 0 w a3 c3 zs) (hzb : Bts zs) :
    Calls Tryd.prog 3 #[.int .i64 i, .slice a1 ls.length c1, .slice a2 ts.length c2, .slice a3 zs.length c3] w fun e w' => e = .returned (.bool true) ∧ Below w.heap.size w w' := by
  by_cases ho : 120 < ls.length ∨ 30 < ts.length ∨ 40 < zs.length ∨ i < 0 ∨ 40 < i
  · exact lawBg_out A i a1 c1 ls.length a2 c2 ts.length a3 c3 zs.length w hS ht ho
  · obtain ⟨N, rfl⟩ : ∃ N : Nat, i = (N : Int) := ⟨i.toNat, by omega⟩
    exact lawBg_in A N a1 c1 ls a2 c2 ts a3 c3 zs w hS ht hl hlb hts htb hz hzb (fun h => ho (.inl h)) (fun h => ho (.inr (.inl h))) (fun h => ho (.inr (.inr (.inl h)))) (by omega)
end Go.Proofs.YtfkodpglgeghlaaDoor
