/- Contract of the document's AagBytes at a circuit: its text ('textA'). Conditions: no number is below 0 or of more than nine digits; at most a thousand inputs, gates and outputs; the table of powers of ten is as the program lays it. · The contract of skolemref.Bytes: a copy. Conditions: the slice reads as bytes, and is not too long. · Contracts of skolemref.SameBytes and skolemref.SameBools. Conditions: the slices read as the lists named ('RowG'). · A circuit in a block of its own ('Cq'), what stays of it; both Reads and both Bytes at a right circuit and its text. Conditions: the errors lie as 'Sents' says; the table of powers of ten is as the program lays it. · The law AagBack: true for whatever arguments. Conditions: the slices read as 64-bit ints, as bytes; the errors lie as 'Sents' says; the table of powers of ten is as the program lays it. -/
import Derived.Test.YtfkodpglgeghlaaDoorAbM1
import Derived.Deep.RegionHeld3
import Derived.Test.YtfkodpglgeghlaaDoorAppStr
import Derived.Test.YtfkodpglgeghlaaDoorBits
import Derived.Deep.QuietTactic
import Derived.BigQuiet
import Derived.RegionTactic
import Derived.WalkSmall
import Derived.Deep.Draws
import Derived.Test.YtfkodpglgeghlaaDoorAbM2
import Derived.Test.YtfkodpglgeghlaaDoorRda
import Derived.Test.YtfkodpglgeghlaaDoorSmC
import Derived.Test.YtfkodpglgeghlaaDoorFst11
namespace Go.Proofs.YtfkodpglgeghlaaDoor
open Go.RowKit

theorem rby_head {w : World} {i a b : Int} {u v : Value} (hi : 0 ≤ i ∧ i ≤ 1000) (ha : 0 ≤ a ∧ a ≤ 1000) (hb : 0 ≤ b ∧ b ≤ 1000) (ht : Tabs w) :
    Below (w.heap.size + 1) (byW w i u v) (byI w i u v a b) ∧
    Calls Tryd.prog 31 #[.slice (some ⟨w.heap.size + 1, 0, none⟩) 4 4, .slice (some ⟨w.heap.size + 1 + 1, 0, none⟩) 5 5] (byI w i u v a b) fun e w' => ∃ v', e = .returned v' ∧ w'.ownsRow (w.heap.size + 1) 5 1 v' ([97, 97, 103, 32] ++ lineL [i + a, i, 0, b, a]).length (([97, 97, 103, 32] ++ lineL [i + a, i, 0, b, a]).map (Value.int .u8)) ∧ Below (w.heap.size + 1) (byI w i u v a b) w' := by
  have hs1 : (byW w i u v).heap.size = w.heap.size + 1 := by simp [byW]
  have hs2 : (byC w i u v).heap.size = w.heap.size + 1 + 1 := by simp [byC, byW]
  have hs3 : (byI w i u v a b).heap.size = w.heap.size + 1 + 1 + 1 := by simp [byI, byC, byW]
  have b1 : Below w.heap.size w (byW w i u v) := (Below.refl _ w).alloc (Nat.le_refl _) _
  have b2 : Below (w.heap.size + 1) (byW w i u v) (byC w i u v) := (Below.refl _ _).alloc (by omega) _
  have b3 : Below (w.heap.size + 1 + 1) (byC w i u v) (byI w i u v a b) := (Below.refl _ _).alloc (by omega) _
  have b23 : Below (w.heap.size + 1) (byW w i u v) (byI w i u v a b) := b2.trans (b3.mono (by omega))
  have bw : Below w.heap.size w (byI w i u v a b) := b1.trans (b23.mono (by omega))
  have hin : Ints (byI w i u v a b) (w.heap.size + 1 + 1) [i + a, i, 0, b, a] := by
    have := heap_alloc_new (byC w i u v) (.cells #[.int .i64 (i + a), .int .i64 i, .int .i64 0, .int .i64 b, .int .i64 a] 3)
    rw [hs2] at this
    exact this
  have hcell : ∀ j x, (([97, 97, 103, 32] : List Int).map (Value.int .u8))[j]? = some x → (byI w i u v a b).cell? ⟨w.heap.size + 1, j, none⟩ = some x := fun j x hj => by
    rw [b3.cell (p := ⟨w.heap.size + 1, j, none⟩) (by simp), ← hs1]
    unfold byC
    rw [World.cell?_alloc_mark]
    simpa using hj
  have hT : ∀ W, Below (w.heap.size + 1) (byI w i u v a b) W → Lib.TabBelow Tryd.prog (w.heap.size + 1) W "internal/strconv.uint64pow10" .u64 Lib.pow10Tab := fun W hW => ht.at _ (bw.trans (hW.mono (by omega))) (by omega)
  have hn : ∀ n ∈ [i + a, i, 0, b, a], 0 ≤ n ∧ n < 1000000000 := by
    intro n hn
    simp at hn
    omega
  obtain ⟨N, hN⟩ : ∃ N : Nat, i + a = (N : Int) := ⟨(i + a).toNat, by omega⟩
  refine ⟨b23, numbers_any (w.heap.size + 1) _ [97, 97, 103, 32] (i + a) [i, 0, b, a] (w.heap.size + 1 + 1) _ hin (by omega) ?_ (fun n h => by have := hn n (by simp at h ⊢; omega); omega) (by simp) ?_ hT⟩
  · rw [hN]
    rw [hN] at hin
    exact appFirst_ints (w.heap.size + 1) (w.heap.size + 1) 4 N (by omega) [97, 97, 103, 32] rfl (by omega) _ (by omega) hcell (by omega) (hT _ (Below.refl _ _)).here (w.heap.size + 1 + 1) _ hin
  · have := lineL_len [i + a, i, 0, b, a] hn
    rw [List.length_append]
    simp only [List.length_cons, List.length_nil] at this ⊢
    omega


set_option maxRecDepth 8000 in
set_option maxHeartbeats 8000000 in
theorem rbyt_any (i : Nat) (u v : Value) (ps : List (Int × Int)) (os : List Int) (w : World) (hU : PRow w u ps) (hV : Row w v os) (hi : i ≤ 1000) (hp : ps.length ≤ 1000) (ho : os.length ≤ 1000)
    (hpb : ∀ x ∈ ps, (0 ≤ x.1 ∧ x.1 < 1000000000) ∧ 0 ≤ x.2 ∧ x.2 < 1000000000) (hob : ∀ o ∈ os, 0 ≤ o ∧ o < 1000000000) (ht : Tabs w) :
    Calls Tryd.prog 24 #[circV (i : Int) u v] w fun e w' => ∃ v', e = .returned v' ∧ w'.ownsRow w.heap.size 5 1 v' (textA i ps os).length ((textA i ps os).map (Value.int .u8)) ∧ Below w.heap.size w w' := by
  obtain ⟨au, cu, rfl, hcu, hcm, hx⟩ := hU
  obtain ⟨av, cv, rfl, hcv, hcvm, hy⟩ := hV
  unfold maxLen at hcm hcvm
  have HB0 := Lib.hid (show Below w.heap.size w (byW w (i : Int) (.slice au ps.length cu) (.slice av os.length cv)) from (Below.refl _ w).alloc (Nat.le_refl _) _)
  have hhd := rby_head (w := w) (i := (i : Int)) (a := (ps.length : Int)) (b := (os.length : Int)) (u := .slice au ps.length cu) (v := .slice av os.length cv) ⟨by omega, by omega⟩ ⟨by omega, by omega⟩ ⟨by omega, by omega⟩ ht
  have HBI := Lib.hid hhd.1
  have HHD := Lib.hid hhd.2
  clear hhd
  have HBX := Lib.hid (fun W (hW : Below (w.heap.size + 1) (byW w (i : Int) (.slice au ps.length cu) (.slice av os.length cv)) W) => by_box hW)
  have HTT := Lib.hid (fun W (hW : Below (w.heap.size + 1) (byW w (i : Int) (.slice au ps.length cu) (.slice av os.length cv)) W) W' (hW' : Below (w.heap.size + 1) W W') => ht.at (w.heap.size + 1) (HB0.out.trans ((hW.trans hW').mono (by omega))) (by omega))
  have HX : Hid (∀ k, k < ps.length → ∃ b off, au = some ⟨b, off, none⟩ ∧ ∀ W, Below w.heap.size w W → W.cell? ⟨b, off + k * 2, none⟩ = some (.int .i64 (ps.getD k (0, 0)).1) ∧ W.cell? ⟨b, off + k * 2 + 1, none⟩ = some (.int .i64 (ps.getD k (0, 0)).2)) := fun k hk => by
    obtain ⟨b, off, e, hbl, hc⟩ := hx.resolve_left (by omega)
    exact ⟨b, off, e, fun W hW => ⟨(hW.cell (p := ⟨b, off + k * 2, none⟩) hbl).trans (hc k hk).1, (hW.cell (p := ⟨b, off + k * 2 + 1, none⟩) hbl).trans (hc k hk).2⟩⟩
  have HY : Hid (∀ k, k < os.length → ∃ b off, av = some ⟨b, off, none⟩ ∧ ∀ W, Below w.heap.size w W → W.cell? ⟨b, off + k, none⟩ = some (.int .i64 (os.getD k 0))) := fun k hk => by
    obtain ⟨b, off, e, hbl, hc⟩ := hy.resolve_left (by omega)
    exact ⟨b, off, e, fun W hW => (hW.cell (p := ⟨b, off + k, none⟩) hbl).trans (hc k hk)⟩
  have HPB : Hid (∀ k, k < ps.length → (0 ≤ (ps.getD k (0, 0)).1 ∧ (ps.getD k (0, 0)).1 < 1000000000) ∧ 0 ≤ (ps.getD k (0, 0)).2 ∧ (ps.getD k (0, 0)).2 < 1000000000) := fun k hk => by
    have := hpb _ (List.getElem_mem hk)
    simpa [List.getD, hk] using this
  have HOB : Hid (∀ k, k < os.length → 0 ≤ os.getD k 0 ∧ os.getD k 0 < 1000000000) := fun k hk => by
    have := hob _ (List.getElem_mem hk)
    simpa [List.getD, hk] using this
  have HLI : Hid (([97, 97, 103, 32] ++ lineL [(i : Int) + (ps.length : Int), (i : Int), 0, (os.length : Int), (ps.length : Int)]).length ≤ 100) := by
    have := lineL_len [(i : Int) + (ps.length : Int), (i : Int), 0, (os.length : Int), (ps.length : Int)] (by intro n hn; simp at hn; omega)
    unfold Hid
    rw [List.length_append]
    simp only [List.length_cons, List.length_nil] at this ⊢
    omega
  have HIL : Hid (∀ k, k ≤ i → (insT k).length ≤ 11 * k) := fun k hk => insT_len k (by omega)
  have HOL : Hid (∀ k, k ≤ os.length → (outsT (os.take k)).length ≤ 11 * 1000) := fun k hk => by
    have := outsT_len (os.take k) (fun o h => hob o (List.mem_of_mem_take h))
    rw [List.length_take] at this
    omega
  have HGL : Hid (∀ k, k ≤ ps.length → (gatesT i 0 (ps.take k)).length ≤ 31 * 1000) := fun k hk => by
    have := gatesT_len i hi (ps.take k) 0 (by rw [List.length_take]; omega) (fun o h => hpb o (List.mem_of_mem_take h))
    rw [List.length_take] at this
    omega
  have HOS : Hid (∀ k, k < os.length → outsT (os.take (k + 1)) = outsT (os.take k) ++ lineL [os.getD k 0]) := fun k hk => outsT_succ os k hk
  have HGS : Hid (∀ k, k < ps.length → gatesT i 0 (ps.take (k + 1)) = gatesT i 0 (ps.take k) ++ lineL [2 * ((i : Int) + (k : Int) + 1), (ps.getD k (0, 0)).1, (ps.getD k (0, 0)).2]) := fun k hk => gatesT_succ i ps k hk
  have HEND : Hid (textA i ps os = [97, 97, 103, 32] ++ lineL [(i : Int) + (ps.length : Int), (i : Int), 0, (os.length : Int), (ps.length : Int)] ++ insT i ++ outsT (os.take os.length) ++ gatesT i 0 (ps.take ps.length)) := by
    unfold Hid textA headT
    rw [List.take_length, List.take_length]
  have HO0 : Hid (outsT (os.take 0) = []) := rfl
  have HG0 : Hid (gatesT i 0 (ps.take 0) = []) := rfl
  clear hx hy hpb hob ht
  generalize [97, 97, 103, 32] ++ lineL [(i : Int) + (ps.length : Int), (i : Int), 0, (os.length : Int), (ps.length : Int)] = hd at *
  generalize ps.length = m at *
  generalize os.length = l at *
  have hmx : max (i : Int) 0 = (i : Int) := by omega
  have hml : decide ((268435456 : Int) < (i : Int)) = false := by simp; omega
  unfold circV
  unfold byI byC at HHD HBI
  unfold byW at *
  have hw0s : (w.alloc (.cells #[.int .i64 (i : Int), .slice au m cu, .slice av l cv] 27)).heap.size = w.heap.size + 1 := by simp
  have kc := Lib.run_convert_bytes_const (P := Tryd.prog) (w.alloc (.cells #[.int .i64 (i : Int), .slice au m cu, .slice av l cv] 27)) 23 5 #[.int .u8 97, .int .u8 97, .int .u8 103, .int .u8 32] 4 4 Tryd.underlying23 Tryd.underlying5
  rw [hw0s] at kc
  clear hw0s
  go_enter Tryd.func24, Tryd.ntmps24
  go_wp2_with (go_at_call 31; refine HHD.out.mono ?_; rintro e1 w1 ⟨v1, rfl, hown1, hb1⟩)
  have HO1 := Lib.hid hown1
  have HB1 := Lib.hid (HBI.out.trans hb1)
  clear hown1 hb1 HHD HBI kc hmx hml
  generalize hw0 : w.alloc (.cells #[.int .i64 (i : Int), .slice au m cu, .slice av l cv] 27) = w0 at *
  have HZ0 : Hid (w0.heap.size = w.heap.size + 1) := by unfold Hid; rw [← hw0]; simp
  clear hw0
  have HI9 := Lib.hid hi
  go_loopw [3, 4] (fun bv iv wr => ∃ k : Nat, k ≤ i ∧ iv = .int .i64 (k : Int) ∧ Hid (wr.ownsRow (w.heap.size + 1) 5 1 bv (hd ++ insT k).length ((hd ++ insT k).map (Value.int .u8)) ∧ Below (w.heap.size + 1) w0 wr)) (fun _ iv _ => i - (intOf iv).toNat)
  case atStart => exact ⟨0, Nat.zero_le _, rfl, by simpa [insT] using HO1.out, HB1.out⟩
  case round =>
    obtain ⟨k, hk, rfl, HH⟩ := hrel
    obtain ⟨hown, hbr⟩ := HH.out
    clear HH HO1 HB1
    have hsr : w.heap.size + 1 ≤ wr.heap.size := by have := hbr.size; have := HZ0.out; omega
    obtain ⟨⟨g0, g1, g2⟩, hqs⟩ := HBX.out wr hbr
    by_cases hlt : k < i
    · obtain ⟨ab, kb, cb, rfl, HK, HO⟩ := bopen hown
      have HL1 := Lib.hid (lineNum (w.heap.size + 1) (.slice ab kb cb) kb (hd ++ insT k) (2 * ((k : Int) + 1)) [] wr HO.out hsr (by intro n hn; simp at hn; omega) (by simp) (by rw [List.length_append]; have := HLI.out; have := HIL.out k hk; simp; omega) (fun W hW => HTT.out wr hbr W hW))
      have HS1 := Lib.hid (show hd ++ insT (k + 1) = hd ++ insT k ++ lineL [2 * ((k : Int) + 1)] by rw [insT_succ, List.append_assoc])
      have HBR := Lib.hid hbr
      have hk1 : (k : Int) ≤ 1000 := by omega
      clear hown hbr HTT HBX HX HY
      go_wp2_with (go_at_call 31; refine HL1.out.mono ?_; rintro e3 w3 ⟨v3, rfl, hown3, hb3⟩; have HO3 := Lib.hid hown3; have HB3 := Lib.hid (HBR.out.trans hb3); clear hown3 hb3)
      go_roundw
      case rel => exact ⟨k + 1, by omega, by go_num, by rw [HS1.out]; exact HO3.out, HB3.out⟩
      case measure => simp [intOf]; omega
    · have hki : i = k := by omega
      subst hki
      obtain ⟨ab, kb, cb, rfl, HK, HO⟩ := bopen hown
      have HB2 := Lib.hid hbr
      clear hown hbr hlt hk
      go_wp2_with fail
      clear g0 g1 g2
      have HL2 : Hid ((hd ++ insT i).length ≤ 100 + 11 * 1000) := by unfold Hid; rw [List.length_append]; have := HLI.out; have := HIL.out i (Nat.le_refl _); omega
      have HTE : Hid (textA i ps os = hd ++ insT i ++ outsT (os.take l) ++ gatesT i 0 (ps.take m)) := HEND.out
      clear HEND HLI HIL
      generalize hd ++ insT i = hi2 at *
      go_loopw [3, 5] (fun bv iv wr => ∃ k : Nat, k ≤ l ∧ iv = .int .i64 (k : Int) ∧ Hid (wr.ownsRow (w.heap.size + 1) 5 1 bv (hi2 ++ outsT (os.take k)).length ((hi2 ++ outsT (os.take k)).map (Value.int .u8)) ∧ Below (w.heap.size + 1) w0 wr)) (fun _ iv _ => l - (intOf iv).toNat)
      case atStart => exact ⟨0, Nat.zero_le _, rfl, by rw [HO0.out, List.append_nil, ← HK.out]; exact HO.out, HB2.out⟩
      case round =>
        obtain ⟨k, hk, rfl, HH⟩ := hrel
        obtain ⟨hown, hbr⟩ := HH.out
        clear HH HO HB2 HK
        rename World => wr
        have hsr : w.heap.size + 1 ≤ wr.heap.size := by have := hbr.size; have := HZ0.out; omega
        obtain ⟨⟨g0, g1, g2⟩, hqs⟩ := HBX.out wr hbr
        by_cases hlt : k < l
        · obtain ⟨ab, kb, cb, rfl, HK, HO⟩ := bopen hown
          obtain ⟨b, off, rfl, hcl⟩ := HY.out k hlt
          have y0 := hcl wr (HB0.out.trans (hbr.mono (by omega)))
          have HL1 := Lib.hid (lineNum (w.heap.size + 1) (.slice ab kb cb) kb (hi2 ++ outsT (os.take k)) (os.getD k 0) [] wr HO.out hsr (by intro n hn; simp only [List.mem_singleton] at hn; subst hn; exact HOB.out k hlt) (by simp) (by rw [List.length_append]; have := HL2.out; have := HOL.out k hk; simp; omega) (fun W hW => HTT.out wr hbr W hW))
          have HS1 : Hid (hi2 ++ outsT (os.take (k + 1)) = hi2 ++ outsT (os.take k) ++ lineL [os.getD k 0]) := by unfold Hid; rw [HOS.out k hlt, List.append_assoc]
          have HBR := Lib.hid hbr
          clear hown hbr HTT HBX HX HY hcl
          generalize os.getD k 0 = x at *
          go_wp2_with (go_at_call 31; refine HL1.out.mono ?_; rintro e3 w3 ⟨v3, rfl, hown3, hb3⟩; have HO3 := Lib.hid hown3; have HB3 := Lib.hid (HBR.out.trans hb3); clear hown3 hb3)
          go_roundw
          case rel => exact ⟨k + 1, by omega, by go_num, by rw [HS1.out]; exact HO3.out, HB3.out⟩
          case measure => simp [intOf]; omega
        · have hkl : l = k := by omega
          subst hkl
          obtain ⟨ab, kb, cb, rfl, HK, HO⟩ := bopen hown
          have HB2 := Lib.hid hbr
          clear hown hbr hlt hk HOS HOB HY
          go_wp2_with fail
          clear g0 g1 g2
          have HL3 : Hid ((hi2 ++ outsT (os.take l)).length ≤ 100 + 11 * 1000 + 11 * 1000) := by unfold Hid; rw [List.length_append]; have := HL2.out; have := HOL.out l (Nat.le_refl _); omega
          clear HL2 HOL
          generalize hi2 ++ outsT (os.take l) = hi3 at *
          go_loopw [3, 6] (fun bv iv wr => ∃ k : Nat, k ≤ m ∧ iv = .int .i64 (k : Int) ∧ Hid (wr.ownsRow (w.heap.size + 1) 5 1 bv (hi3 ++ gatesT i 0 (ps.take k)).length ((hi3 ++ gatesT i 0 (ps.take k)).map (Value.int .u8)) ∧ Below (w.heap.size + 1) w0 wr)) (fun _ iv _ => m - (intOf iv).toNat)
          case atStart => exact ⟨0, Nat.zero_le _, rfl, by rw [HG0.out, List.append_nil, ← HK.out]; exact HO.out, HB2.out⟩
          case round =>
            obtain ⟨k, hk, rfl, HH⟩ := hrel
            obtain ⟨hown, hbr⟩ := HH.out
            clear HH HO HB2 HK
            rename World => wr
            have hsr : w.heap.size + 1 ≤ wr.heap.size := by have := hbr.size; have := HZ0.out; omega
            obtain ⟨⟨g0, g1, g2⟩, hqs⟩ := HBX.out wr hbr
            by_cases hlt : k < m
            · obtain ⟨ab, kb, cb, rfl, HK, HO⟩ := bopen hown
              obtain ⟨b, off, rfl, hcl⟩ := HX.out k hlt
              obtain ⟨y0, y1⟩ := hcl wr (HB0.out.trans (hbr.mono (by omega)))
              have hpk := HPB.out k hlt
              have HS1 : Hid (hi3 ++ gatesT i 0 (ps.take (k + 1)) = hi3 ++ gatesT i 0 (ps.take k) ++ lineL [2 * ((i : Int) + (k : Int) + 1), (ps.getD k (0, 0)).1, (ps.getD k (0, 0)).2]) := by unfold Hid; rw [HGS.out k hlt, List.append_assoc]
              have HLX : Hid ((hi3 ++ gatesT i 0 (ps.take k)).length ≤ 100 + 11 * 1000 + 11 * 1000 + 31 * 1000) := by unfold Hid; rw [List.length_append]; have := HL3.out; have := HGL.out k hk; omega
              generalize (ps.getD k (0, 0)).1 = x at *
              generalize (ps.getD k (0, 0)).2 = y at *
              have hik : (i : Int) + (k : Int) ≤ 2000 := by omega
              obtain ⟨S, hS⟩ : ∃ S : Int, (i : Int) + (k : Int) = S := ⟨_, rfl⟩
              obtain ⟨P, hP⟩ : ∃ P : Int, S + 1 = P := ⟨_, rfl⟩
              have hw1 : IntKind.i64.wrap ((i : Int) + (k : Int)) = S := by rw [IntWalk.i64_in _ (by omega)]; exact hS
              have hw2 : IntKind.i64.wrap (S + 1) = P := by rw [IntWalk.i64_in _ (by omega)]; exact hP
              obtain ⟨Q, hQ⟩ : ∃ Q : Int, 2 * P = Q := ⟨_, rfl⟩
              have hw3 : IntKind.i64.wrap (2 * P) = Q := by rw [IntWalk.i64_in _ (by omega)]; exact hQ
              have hPb : 0 ≤ Q ∧ Q ≤ 6000 := by omega
              rw [hS, hP, hQ] at HS1
              have HL1 : Hid (∀ W, Below wr.heap.size wr W → Ints W wr.heap.size [Q, x, y] → Calls Tryd.prog 31 #[.slice ab kb cb, .slice (some ⟨wr.heap.size, 0, none⟩) 3 3] W fun e w' => ∃ v', e = .returned v' ∧ w'.ownsRow (w.heap.size + 1) 5 1 v' (hi3 ++ gatesT i 0 (ps.take k) ++ lineL [Q, x, y]).length ((hi3 ++ gatesT i 0 (ps.take k) ++ lineL [Q, x, y]).map (Value.int .u8)) ∧ Below (w.heap.size + 1) wr w') := fun W hW hin =>
                lineNumW (w.heap.size + 1) wr.heap.size (.slice ab kb cb) kb (hi3 ++ gatesT i 0 (ps.take k)) Q [x, y] wr W HO.out hsr hW hin (by intro n hn; simp at hn; omega) (by simp) (by have := HLX.out; simp only [List.length_cons, List.length_nil]; omega) (fun W' hW' => HTT.out wr hbr W' hW')
              have HIN : Hid (Ints (wr.alloc (.cells #[.int .i64 Q, .int .i64 x, .int .i64 y] 3)) wr.heap.size [Q, x, y]) := heap_alloc_new wr _
              have HBP : Hid (Below wr.heap.size wr (wr.alloc (.cells #[.int .i64 Q, .int .i64 x, .int .i64 y] 3))) := (Below.refl _ wr).alloc (Nat.le_refl _) _
              have HFX : Hid (∀ W, Below (w.heap.size + 1) wr W → W.cell? ⟨w.heap.size, 0, none⟩ = some (.int .i64 (i : Int)) ∧ W.cell? ⟨w.heap.size, 1, none⟩ = some (.slice (some ⟨b, off, none⟩) m cu) ∧ W.cell? ⟨b, off + k * 2, none⟩ = some (.int .i64 x) ∧ W.cell? ⟨b, off + k * 2 + 1, none⟩ = some (.int .i64 y)) := fun W hW => by
                obtain ⟨⟨e0, e1, e2⟩, _⟩ := HBX.out W (hbr.trans hW)
                obtain ⟨f0, f1⟩ := hcl W (HB0.out.trans ((hbr.trans hW).mono (by omega)))
                exact ⟨e0, e1, f0, f1⟩
              have HBA : Hid (Below (w.heap.size + 1) wr (wr.alloc (.cells #[.int .i64 Q, .int .i64 x, .int .i64 y] 3))) := ((Below.refl _ wr).alloc (Nat.le_refl _) _).mono hsr
              have HBN : Hid (Below (w.heap.size + 1) wr wr) := Below.refl _ _
              have HBR := Lib.hid hbr
              clear hown hbr HTT HBX HX hcl HO HLX hpk
              clear hS hP hQ hik
              obtain ⟨hP0, hP1⟩ := hPb
              go_wp2_with fail
              go_region_held3 (fun W => W.cell? ⟨w.heap.size, 0, none⟩ = some (.int .i64 (i : Int)) ∧ W.cell? ⟨w.heap.size, 1, none⟩ = some (.slice (some ⟨b, off, none⟩) m cu) ∧ W.cell? ⟨b, off + k * 2, none⟩ = some (.int .i64 x) ∧ W.cell? ⟨b, off + k * 2 + 1, none⟩ = some (.int .i64 y)) (first | exact HFX.out _ HBN.out | exact HFX.out _ HBN.out.drew | exact HFX.out _ HBA.out | exact HFX.out _ HBA.out.drew | exact hs3) (first
                | (go_at_call 31; refine (HL1.out _ (by first | exact HBP.out | exact HBP.out.drew) (by exact HIN.out)).mono ?_; rintro e3 w3 ⟨v3, rfl, hown3, hb3⟩; have hs3 := HFX.out _ hb3; have HO3 := Lib.hid hown3; have HB3 := Lib.hid (HBR.out.trans hb3); clear hown3 hb3))
              all_goals
                go_wp2_with fail
                go_roundw
                case rel => exact ⟨k + 1, by omega, by go_num, by rw [HS1.out]; exact HO3.out, HB3.out⟩
                case measure => simp [intOf]; omega
            · have hkm : m = k := by omega
              subst hkm
              obtain ⟨ab, kb, cb, rfl, HK, HO⟩ := bopen hown
              have HB2 := Lib.hid hbr
              clear hown hbr hlt hk HX
              go_wp2_with fail
              go_ret
              rw [HTE.out]
              refine ⟨_, rfl, ?_, HB0.out.trans (HB2.out.mono (by omega))⟩
              rw [← HK.out]
              exact own_base HO.out (by omega)
end Go.Proofs.YtfkodpglgeghlaaDoor

namespace Go.Proofs.YtfkodpglgeghlaaDoor
open Go.RowKit

/-- 'make([]byte, 0, n)'. -/
theorem wpList_make0U {ops : Array Oper} {rest : List Oper} {o : Oper} {a : Act} {Q : Exit → Act → World → Prop} (hgd : o.guard = none) (l c : Operand) (ho : o.op = Op.makeSlice 23 l c)
    (w : World) (n : Nat) (hl : a.eval l = .int .i64 0) (hc : a.eval c = .int .i64 (n : Int)) (hn : n < 1099511627776)
    (h : ∀ w', w'.ownsRow w.heap.size 5 1 (.slice (some ⟨w.heap.size, 0, none⟩) 0 n) 0 (([] : List Int).map (Value.int .u8)) → Below w.heap.size w w' → w.heap.size < w'.heap.size → wpList Tryd.prog ops Q rest (a.put o.dst (.slice (some ⟨w.heap.size, 0, none⟩) 0 n)) w') :
    wpList Tryd.prog ops Q (o :: rest) a w := by
  obtain ⟨i0, hi, hz0, hz1, hz2⟩ := info_parts infoU8
  refine wpList_make_own _ hgd l c 23 ho w.heap.size 5 i0 (.int .u8 0) 1 Tryd.underlying23 hi hz0 hz1 _ _ _ n hl hc rfl (by rw [hz2]; omega) (by unfold maxLen; omega) (Nat.le_refl _) ?_
  intro w' h1 h2
  have hlt := h1.lt w.heap.size rfl
  exact h w' (by simpa using h1) ((Below.refl _ w).grown h2 (Nat.le_refl _) fun k hk => by cases hk) hlt.2

set_option maxHeartbeats 1000000 in
theorem copyB_any (v : Value) (xs : List Int) (w : World) (hv : RowG (Value.int .u8) 0 w v xs) (hn : xs.length ≤ 10000) :
    Calls Tryd.prog 13 #[v] w fun e w' => (∃ v', e = .returned v' ∧ w'.ownsRow w.heap.size 5 1 v' xs.length (xs.map (Value.int .u8))) ∧ Below w.heap.size w w' := by
  obtain ⟨a, c, rfl, hxc, hcm, hx⟩ := hv
  unfold maxLen at hcm
  have HX := Lib.hid hx; clear hx
  generalize hN : xs.length = n at *
  have HN := Lib.hid hN; clear hN
  go_enter Tryd.func13, Tryd.ntmps13
  go_wp2_with (at_make; refine wpList_make0U rfl _ _ rfl _ n rfl rfl (by omega) ?_; intro w1 hown hb1 hs1)
  go_loopw [3, 4] (fun o i wr => ∃ k : Nat, k ≤ n ∧ i = .int .i64 k ∧ wr.ownsRow w.heap.size 5 1 o k ((xs.take k).map (Value.int .u8)) ∧ Below w.heap.size w wr ∧ w.heap.size < wr.heap.size) (fun _ i _ => n - (intOf i).toNat)
  case atStart => exact ⟨0, Nat.zero_le _, rfl, by simpa using hown, hb1, hs1⟩
  case round =>
    obtain ⟨k, hk, rfl, hownr, hbr, hsr⟩ := hrel
    clear hown hb1 hs1
    by_cases hlt : k < n
    · obtain ⟨b, off, ha, hb, hc⟩ := HX.out.resolve_left (by omega)
      subst ha
      have g1 : wr.cell? ⟨b, off + k, none⟩ = some (.int .u8 (xs.getD k 0)) := (hbr.cell (p := ⟨b, off + k, none⟩) hb).trans (hc k hlt)
      clear hc
      have HT := Lib.hid (take_snoc xs k (by rw [HN.out]; exact hlt))
      generalize xs.getD k 0 = y at *
      go_wp2_with (at_builtin; refine wpList_app1G (Value.int .u8) 23 5 (.int .u8 0) 1 Tryd.underlying23 infoU8 rfl (by decide) rfl _ _ rfl wr w.heap.size _ _ _ y rfl hownr (by omega) (by omega) rfl rfl ?_; intro v' w2 hown2 hb3)
      go_roundw
      case rel => exact ⟨k + 1, by omega, by go_num, by rw [HT.out]; exact hown2, hbr.trans hb3.below, Nat.lt_of_lt_of_le hsr hb3.below.size⟩
      case measure => simp [intOf]; omega
    · have hkn : k = n := by omega
      rw [hkn, List.take_of_length_le (by rw [HN.out]; exact Nat.le_refl _)] at hownr
      clear hkn
      go_wp2
      go_ret
      exact ⟨⟨_, rfl, hownr⟩, hbr⟩
end Go.Proofs.YtfkodpglgeghlaaDoor

namespace Go.Proofs.YtfkodpglgeghlaaDoor
open Go.RowKit

theorem below_drawsG {w w' : World} (h : ∃ n, w' = w.drewN n) : Below w.heap.size w w' := by
  obtain ⟨n, rfl⟩ := h
  exact below_drewN (Below.refl _ _) n

set_option maxHeartbeats 1000000 in
theorem sameBytes_any (v u : Value) (xs ys : List Int) (w : World) (hv : RowG (Value.int .u8) 0 w v xs) (hu : RowG (Value.int .u8) 0 w u ys) :
    Calls Tryd.prog 14 #[v, u] w fun e w' => e = .returned (.bool (decide (xs = ys))) ∧ ∃ n, w' = w.drewN n := by
  obtain ⟨a, c, rfl, hxc, hcm, hx⟩ := hv
  obtain ⟨a', c', rfl, hyc, hcm', hy⟩ := hu
  unfold maxLen at hcm hcm'
  by_cases hl : xs.length = ys.length
  · rw [← hl]
    rw [← hl] at hy hyc
    by_cases h0 : xs.length = 0
    · have hxe : xs = [] := List.eq_nil_of_length_eq_zero h0
      have hye : ys = [] := List.eq_nil_of_length_eq_zero (by omega)
      subst hxe; subst hye
      clear hx hy hl h0
      go_enter Tryd.func14, Tryd.ntmps14
      go_wp2
      refine wp_loop_rounds 1 ?_
      rw [rounds_succ]
      go_wp2
      go_ret
      exact ⟨by simp, 0, rfl⟩
    · obtain ⟨b, off, rfl, hb, hx⟩ := hx.resolve_left h0
      obtain ⟨b', off', rfl, hb', hy⟩ := hy.resolve_left h0
      have HX := Lib.hid hx; clear hx
      have HY := Lib.hid hy; clear hy
      have HL := Lib.hid hl; clear hl
      generalize hn : xs.length = n at *
      have HN := Lib.hid hn; clear hn
      have hne : ((n : Int) != (n : Int)) = false := by simp
      go_enter Tryd.func14, Tryd.ntmps14
      go_wp2
      go_loopw [5, 6] (fun i _ wr => ∃ k q : Nat, k ≤ n ∧ i = .int .i64 k ∧ wr = w.drewN q ∧ Hid (∀ j, j < k → xs.getD j 0 = ys.getD j 0)) (fun i _ _ => n - (intOf i).toNat)
      case atStart => exact ⟨0, 0, Nat.zero_le _, rfl, rfl, fun j hj => absurd hj (Nat.not_lt_zero _)⟩
      case round =>
        obtain ⟨k, q, hk, rfl, rfl, HQ⟩ := hrel
        by_cases hlt : k < n
        · have g1 : w.cell? ⟨b, off + k, none⟩ = some ((Value.int .u8) (xs.getD k 0)) := HX.out k hlt
          have g2 : w.cell? ⟨b', off' + k, none⟩ = some ((Value.int .u8) (ys.getD k 0)) := HY.out k hlt
          generalize hxk : xs.getD k 0 = x at g1
          generalize hyk : ys.getD k 0 = y at g2
          have HXY := Lib.hid (And.intro hxk hyk); clear hxk hyk
          by_cases he : x = y
          · subst he
            go_wp2
            go_quiet (fail)
            go_wp2
            go_roundw
            case rel =>
              refine ⟨k + 1, _, by omega, by go_num, rfl, fun j hj => ?_⟩
              by_cases e : j = k
              · rw [e, HXY.out.1, HXY.out.2]
              · exact HQ.out j (by omega)
            case measure => simp [intOf]; omega
          · have heb : (x == y) = false := by simp [he]
            go_wp2
            go_quiet (fail)
            go_wp2
            go_ret
            refine ⟨ret_bool ?_, _, rfl⟩
            have : xs ≠ ys := fun e => he (by rw [← HXY.out.1, ← HXY.out.2, e])
            simp [this]
        · have hkn : k = n := by omega
          have hall : xs = ys := getD_extG (d := 0) (by rw [HN.out]; exact HL.out) (fun j hj => HQ.out j (by rw [HN.out] at hj; omega))
          have HA := Lib.hid hall; clear hall
          subst hkn
          go_wp2
          go_ret
          exact ⟨ret_bool (by simp [HA.out]), _, rfl⟩
  · have hne : (!((xs.length : Int) == (ys.length : Int))) = true := by simp; omega
    have hne' : ((xs.length : Int) == (ys.length : Int)) = false := by simp; omega
    have hxy : decide (xs = ys) = false := by
      simp; intro e; exact hl (by rw [e])
    have HD := Lib.hid hxy; clear hxy
    clear hx hy
    generalize xs.length = n at *
    generalize ys.length = m at *
    generalize decide (xs = ys) = d at *
    go_enter Tryd.func14, Tryd.ntmps14
    go_wp2
    go_ret
    exact ⟨ret_bool HD.out.symm, 0, rfl⟩

end Go.Proofs.YtfkodpglgeghlaaDoor

namespace Go.Proofs.YtfkodpglgeghlaaDoor
open Go.RowKit

theorem bb_step {w0 W W' : World} (h : Below w0.heap.size w0 W) (hb : Below W.heap.size W W') : Below w0.heap.size w0 W' := h.trans (hb.mono h.size)
/-- A circuit's cells at block q, its rows. -/
structure Cq (W : World) (q : Nat) (n : Int) (u v : Value) (ps : List (Int × Int)) (os : List Int) : Prop where
  c0 : W.cell? ⟨q, 0, none⟩ = some (.int .i64 n)
  c1 : W.cell? ⟨q, 1, none⟩ = some u
  c2 : W.cell? ⟨q, 2, none⟩ = some v
  U : PRow W u ps
  V : Row W v os
  lt : q < W.heap.size
theorem Cq.keep {W W' : World} {q : Nat} {n : Int} {u v : Value} {ps : List (Int × Int)} {os : List Int} (h : Cq W q n u v ps os) (hb : Below W.heap.size W W') : Cq W' q n u v ps os :=
  ⟨(hb.cell (p := ⟨q, 0, none⟩) h.lt).trans h.c0, (hb.cell (p := ⟨q, 1, none⟩) h.lt).trans h.c1, (hb.cell (p := ⟨q, 2, none⟩) h.lt).trans h.c2, h.U.keep hb, h.V.keep hb, Nat.lt_of_lt_of_le h.lt hb.size⟩
theorem Cq.new {w : World} {n : Int} {u v : Value} {ps : List (Int × Int)} {os : List Int} (T : TypeId) (hu : PRow w u ps) (hv : Row w v os) : Cq (w.alloc (.cells #[.int .i64 n, u, v] T)) w.heap.size n u v ps os := by
  have hb : Below w.heap.size w (w.alloc (.cells #[.int .i64 n, u, v] T)) := (Below.refl _ w).alloc (Nat.le_refl _) _
  refine ⟨?_, ?_, ?_, hu.keep hb, hv.keep hb, by simp⟩
  · rw [World.cell?_alloc_at _ _ _ _ rfl]; rfl
  · rw [World.cell?_alloc_at _ _ _ _ rfl]; rfl
  · rw [World.cell?_alloc_at _ _ _ _ rfl]; rfl
theorem RightC.bd {i : Nat} {ps : List (Int × Int)} {os : List Int} (h : RightC i ps os) : (∀ x ∈ ps, (0 ≤ x.1 ∧ x.1 < 1000000000) ∧ 0 ≤ x.2 ∧ x.2 < 1000000000) ∧ ∀ o ∈ os, 0 ≤ o ∧ o < 1000000000 := by
  obtain ⟨h1, h2, h3, h4⟩ := h
  refine ⟨fun x hx => ?_, fun o ho => by have := h4 o ho; omega⟩
  obtain ⟨j, hj, rfl⟩ := List.getElem_of_mem hx
  have := h3 j hj
  simp only [List.getD, List.getElem?_eq_getElem hj, Option.getD_some] at this
  omega
theorem textA_len {i : Nat} {ps : List (Int × Int)} {os : List Int} (h : RightC i ps os) (hi : i ≤ 40) (hp : ps.length ≤ 60) (ho : os.length ≤ 30) : (textA i ps os).length ≤ 3000 := by
  obtain ⟨b1, b2⟩ := h.bd
  have h1 := insT_len i (by omega)
  have h2 := outsT_len os b2
  have h3 := gatesT_len i (by omega) ps 0 (by omega) b1
  have h4 := lineL_len [(i : Int) + (ps.length : Int), (i : Int), 0, (os.length : Int), (ps.length : Int)] (by intro n hn; simp at hn; omega)
  unfold textA headT
  simp only [List.length_append, List.length_cons, List.length_nil] at h4 ⊢
  omega
theorem textA_bts (i : Nat) (ps : List (Int × Int)) (os : List Int) : Bts (textA i ps os) := by
  have hl : ∀ ns : List Int, Bts (lineL ns) := fun ns x hx => by
    unfold lineL bodyL at hx
    rcases List.mem_append.1 hx with hx | hx
    · have := List.mem_of_mem_drop hx
      obtain ⟨n, _, hn⟩ := List.mem_flatMap.1 this
      rcases List.mem_cons.1 hn with rfl | hn
      · omega
      · exact (tok_itoa n).2 x hn
    · have e := List.mem_singleton.1 hx; subst e; omega
  unfold textA headT
  refine Bts.append (Bts.append (Bts.append (Bts.append ?_ (hl _)) ?_) ?_) ?_
  · intro x hx; simp at hx; omega
  · intro x hx
    unfold insT at hx
    obtain ⟨j, _, hj⟩ := List.mem_flatMap.1 hx
    exact hl _ x hj
  · intro x hx
    unfold outsT at hx
    obtain ⟨j, _, hj⟩ := List.mem_flatMap.1 hx
    exact hl _ x hj
  · have : ∀ (ps : List (Int × Int)) (k : Nat), Bts (gatesT i k ps) := fun ps => by
      induction ps with
      | nil => intro k x hx; cases hx
      | cons y ps ih => intro k; rw [gatesT]; exact (hl _).append (ih (k + 1))
    exact this ps 0
/-- What Read answers where it takes the text. -/
def GotP (w : World) (n : Int) (ps : List (Int × Int)) (os : List Int) (r : Ending) (w' : World) : Prop :=
  (∃ u v, r = .returned (.tuple #[circV n u v, .nilIface]) ∧ PRow w' u ps ∧ Row w' v os) ∧ Below w.heap.size w w'
/-- What Read answers where it does not. -/
def NotP (A : Nat → Addr) (w : World) (f : Bool) (k : Int) (r : Ending) (w' : World) : Prop :=
  (∃ ev, r = .returned (.tuple #[circV 0 (.slice none 0 0) (.slice none 0 0), ev]) ∧ AtB A w.heap.size w' ev k (if f = true then 1 else 0)) ∧ Below w.heap.size w w'
theorem read_got {A : Nat → Addr} {w : World} {P : Program} {f : Nat} {args : Array Value} {R : Res} {n : Int} {ps : List (Int × Int)} {os : List Int} (h : Calls P f args w (ReadP A w R)) (hR : R = ((n, ps, os), none)) : Calls P f args w (GotP w n ps os) := by
  refine h.mono ?_
  rintro e w' ⟨⟨u, v, ev, h1, h2, h3, h4⟩, h5⟩
  rw [hR] at h1 h2 h3 h4
  have h6 : ev = .nilIface := h4
  subst h6
  exact ⟨⟨u, v, h1, h2, h3⟩, h5⟩
theorem sameCir_one (n : Int) (u v u' v' : Value) (ps : List (Int × Int)) (os : List Int) (w : World) (h1 : PRow w u ps) (h2 : Row w v os) (h3 : PRow w u' ps) (h4 : Row w v' os) :
    Calls Tryd.prog 16 #[circV n u v, circV n u' v'] w fun e w' => e = .returned (.bool true) ∧ Below w.heap.size w w' := by
  have := sameCir_any n n u v u' v' ps ps os os w h1 h2 h3 h4
  simpa using this
/-- A text just made. -/
theorem text_row {w : World} {B : Nat} {v : Value} {n : Nat} {xs : List Int} (h : w.ownsRow B 5 1 v n (xs.map (Value.int .u8))) : ∃ a c, v = .slice a xs.length c ∧ RowG (Value.int .u8) 0 w (.slice a xs.length c) xs := by
  obtain ⟨a, c, rfl, h2⟩ := own_rowG h
  exact ⟨a, c, rfl, a, c, rfl, h2⟩
end Go.Proofs.YtfkodpglgeghlaaDoor

namespace Go.Proofs.YtfkodpglgeghlaaDoor
open Go.RowKit

set_option maxRecDepth 8000 in
set_option maxHeartbeats 4000000 in
theorem lawAb_out (A : Nat → Addr) (i : Int) (a1 : Option Addr) (c1 m1 : Nat) (a2 : Option Addr) (c2 m2 : Nat) (a3 : Option Addr) (c3 m3 : Nat) (w : World) (hS : Sents w A) (ht : Tabs w) (ho : 120 < m1 ∨ 30 < m2 ∨ 40 < m3 ∨ i < 0 ∨ 40 < i) :
    Calls Tryd.prog 7 #[.int .i64 i, .slice a1 m1 c1, .slice a2 m2 c2, .slice a3 m3 c3] w fun e w' => e = .returned (.bool true) ∧ Below w.heap.size w w' := by
  have HF := Lib.hid (first11_any A w hS ht)
  clear hS ht
  by_cases d1 : 120 < m1
  · have d1' : decide ((120 : Int) < (m1 : Int)) = true := decide_eq_true (by omega)
    clear ho
    go_enter Tryd.func7, Tryd.ntmps7
    go_wp2_with (go_at_call 23; refine HF.out.mono ?_; rintro e w1 ⟨rfl, hb1⟩)
    go_ret
    exact ⟨rfl, hb1⟩
  have d1' : decide ((120 : Int) < (m1 : Int)) = false := decide_eq_false (by omega)
  by_cases d2 : 30 < m2
  · have d2' : decide ((30 : Int) < (m2 : Int)) = true := decide_eq_true (by omega)
    clear ho
    go_enter Tryd.func7, Tryd.ntmps7
    go_wp2_with (go_at_call 23; refine HF.out.mono ?_; rintro e w1 ⟨rfl, hb1⟩)
    go_ret
    exact ⟨rfl, hb1⟩
  have d2' : decide ((30 : Int) < (m2 : Int)) = false := decide_eq_false (by omega)
  by_cases d3 : 40 < m3
  · have d3' : decide ((40 : Int) < (m3 : Int)) = true := decide_eq_true (by omega)
    clear ho
    go_enter Tryd.func7, Tryd.ntmps7
    go_wp2_with (go_at_call 23; refine HF.out.mono ?_; rintro e w1 ⟨rfl, hb1⟩)
    go_ret
    exact ⟨rfl, hb1⟩
  have d3' : decide ((40 : Int) < (m3 : Int)) = false := decide_eq_false (by omega)
  by_cases d4 : i < 0
  · clear ho
    go_enter Tryd.func7, Tryd.ntmps7
    go_wp2_with (go_at_call 23; refine HF.out.mono ?_; rintro e w1 ⟨rfl, hb1⟩)
    go_ret
    exact ⟨rfl, hb1⟩
  · have d5 : 40 < i := by omega
    clear ho
    go_enter Tryd.func7, Tryd.ntmps7
    go_wp2_with (go_at_call 23; refine HF.out.mono ?_; rintro e w1 ⟨rfl, hb1⟩)
    go_ret
    exact ⟨rfl, hb1⟩

theorem bts_c {zs : List Int} (h : Bts zs) : Bts (99 :: 10 :: zs) := fun x hx => by
  rcases List.mem_cons.1 hx with rfl | hx
  · omega
  · rcases List.mem_cons.1 hx with rfl | hx
    · omega
    · exact h x hx
theorem tail_cells {W : World} {a : Option Addr} {c n : Nat} {zs : List Int} (h : RowGAt (Value.int .u8) 0 W a c zs) (hn : zs.length = n) : n = 0 ∨ ∃ ad, a = some ad ∧ ∀ j u, (zs.map (Value.int .u8))[j]? = some u → W.cell? (ad.add j) = some u := by
  obtain ⟨_, _, h3⟩ := h
  rcases h3 with h3 | ⟨b, off, e, _, hc⟩
  · exact .inl (by omega)
  · refine .inr ⟨_, e, fun j u hj => ?_⟩
    have hjl : j < zs.length := by
      have := (List.getElem?_eq_some_iff.1 hj).1
      simpa using this
    rw [show (⟨b, off, none⟩ : Addr).add j = ⟨b, off + j, none⟩ by unfold Addr.add; split <;> simp_all, hc j hjl]
    rw [List.getElem?_map] at hj
    simpa [List.getD, hjl] using hj

set_option maxRecDepth 8000 in
set_option maxHeartbeats 8000000 in
theorem lawAb_in (A : Nat → Addr) (N : Nat) (a1 : Option Addr) (c1 : Nat) (ls : List Int) (a2 : Option Addr) (c2 : Nat) (ts : List Int) (a3 : Option Addr) (c3 : Nat) (zs : List Int) (w : World) (hS : Sents w A) (ht : Tabs w)
    (hl : RowAt w a1 c1 ls) (hlb : ∀ y ∈ ls, in64 y) (hts : RowAt w a2 c2 ts) (htb : ∀ y ∈ ts, in64 y) (hz : RowGAt (Value.int .u8) 0 w a3 c3 zs) (hzb : Bts zs) (e1 : ¬ 120 < ls.length) (e2 : ¬ 30 < ts.length) (e3 : ¬ 40 < zs.length) (e5 : ¬ (40 : Int) < (N : Int)) :
    Calls Tryd.prog 7 #[.int .i64 (N : Int), .slice a1 ls.length c1, .slice a2 ts.length c2, .slice a3 zs.length c3] w fun e w' => e = .returned (.bool true) ∧ Below w.heap.size w w' := by
  have d1 : decide ((120 : Int) < (ls.length : Int)) = false := decide_eq_false (by omega)
  have d2 : decide ((30 : Int) < (ts.length : Int)) = false := decide_eq_false (by omega)
  have d3 : decide ((40 : Int) < (zs.length : Int)) = false := decide_eq_false (by omega)
  have d4 : ¬ (N : Int) < 0 := by omega
  have HF := Lib.hid (first11_any A w hS ht)
  have HMK := Lib.hid (fun W (hW : Below w.heap.size w W) => mkc_any N (.slice a1 ls.length c1) (.slice a2 ts.length c2) ls ts W (Row.keep ⟨a1, c1, rfl, hl⟩ hW) (Row.keep ⟨a2, c2, rfl, hts⟩ hW) (by omega) (by omega) (by omega) hlb htb)
  have HSN := Lib.hid (fun W (hW : Below w.heap.size w W) => hS.keep hW)
  have HTN := Lib.hid (fun W (hW : Below w.heap.size w W) => ht.keep hW)
  have HZ := Lib.hid (fun W (hW : Below w.heap.size w W) => RowGAt.keep hz hW)
  have HZB := Lib.hid hzb
  have HE := Lib.hid (And.intro e1 (And.intro e2 (And.intro e3 e5)))
  clear hS ht hl hlb hts htb hz hzb e1 e2 e3
  generalize hn1 : ls.length = n1 at *
  generalize hn2 : ts.length = n2 at *
  generalize hn3 : zs.length = n3 at *
  have HN3 := Lib.hid hn3
  clear hn1 hn2 hn3
  go_enter Tryd.func7, Tryd.ntmps7
  go_wp2_with fail
  refine HF.out.mono ?_
  rintro e w1 ⟨rfl, hb1⟩
  have HB1 := Lib.hid hb1
  clear hb1 HF
  go_wp2_with fail
  refine (HMK.out _ HB1.out).mono ?_
  rintro e w2 ⟨⟨u, v, ps, os, rfl, hU, hV, hR, hpl, hol⟩, hb2⟩
  have HB2 := Lib.hid (bb_step HB1.out hb2)
  have HR := Lib.hid hR
  have HLN : Hid ((textA N ps os).length ≤ 3000) := textA_len hR (by omega) (by have := HE.out; omega) (by have := HE.out; omega)
  have HPO : Hid (ps.length ≤ 1000 ∧ os.length ≤ 1000) := by unfold Hid; have := HE.out; omega
  obtain ⟨au, cu, rfl, hu⟩ := hU
  obtain ⟨av, cv, rfl, hv⟩ := hV
  have HC := Lib.hid (Cq.new (n := (N : Int)) 27 (⟨au, cu, rfl, hu⟩ : PRow w2 (.slice au ps.length cu) ps) (⟨av, cv, rfl, hv⟩ : Row w2 (.slice av os.length cv) os))
  have HB3 := Lib.hid (bb_step HB2.out ((Below.refl _ w2).alloc (Nat.le_refl _) (.cells #[.int .i64 (N : Int), .slice au ps.length cu, .slice av os.length cv] 27)))
  clear hb2 hu hv hR HMK HB1 hpl hol
  unfold circV
  go_wp2_with fail
  have hbd := HR.out.bd
  refine (byt_any N _ _ ps os _ HC.out.U HC.out.V (by omega) HPO.out.1 HPO.out.2 hbd.1 hbd.2 (HTN.out _ HB3.out)).mono ?_
  rintro e w4 ⟨vb, rfl, hown4, hb4⟩
  obtain ⟨ab, cb, rfl, hrw4⟩ := text_row hown4
  have HRW4 := Lib.hid hrw4
  have HB4 := Lib.hid (bb_step HB3.out hb4)
  have HC4 := Lib.hid (HC.out.keep hb4)
  have HBT := Lib.hid (textA_bts N ps os)
  have HRB := Lib.hid (readR_back ((textA N ps os).length : Int) N ps os HR.out)
  have HRC := Lib.hid (fun e => readR_c e N ps os zs HR.out)
  have HRY := Lib.hid (fun u v W (hW : Below w.heap.size w W) (hU : PRow W u ps) (hV : Row W v os) => rbyt_any N u v ps os W hU hV (by omega) HPO.out.1 HPO.out.2 hbd.1 hbd.2 (HTN.out _ hW))
  clear hown4 hb4 hrw4 hbd HC HB3 HR HPO
  generalize textA N ps os = T at *
  have HRD := Lib.hid (fun W v (hW : Below w.heap.size w W) (hv : RowG (Value.int .u8) 0 W v T) => read_got (readA_any A v T W (HSN.out W hW) hv HBT.out (by have := HLN.out; omega)) HRB.out)
  have HRE := Lib.hid (fun W v (hW : Below w.heap.size w W) (hv : RowG (Value.int .u8) 0 W v (T ++ 99 :: 10 :: zs)) => read_got (readA_any A v (T ++ 99 :: 10 :: zs) W (HSN.out W hW) hv (HBT.out.append (bts_c HZB.out)) (by rw [List.length_append]; simp only [List.length_cons]; have := HLN.out; have := HN3.out; have := HE.out; omega)) (HRC.out _))
  clear HRB HRC
  generalize hnT : T.length = nT at *
  have HNT := Lib.hid hnT
  clear hnT
  go_wp2_with fail
  refine (HRD.out _ _ HB4.out HRW4.out).mono ?_
  rintro e w5 ⟨⟨u5, v5, rfl, hu5, hv5⟩, hb5⟩
  obtain ⟨au5, cu5, rfl, hu5'⟩ := hu5
  obtain ⟨av5, cv5, rfl, hv5'⟩ := hv5
  have HX5 := Lib.hid (Cq.new (n := (N : Int)) 27 (⟨au5, cu5, rfl, hu5'⟩ : PRow w5 (.slice au5 ps.length cu5) ps) (⟨av5, cv5, rfl, hv5'⟩ : Row w5 (.slice av5 os.length cv5) os))
  have hal5 : Below w5.heap.size w5 (w5.alloc (.cells #[.int .i64 (N : Int), .slice au5 ps.length cu5, .slice av5 os.length cv5] 27)) := (Below.refl _ w5).alloc (Nat.le_refl _) _
  have HC5 := Lib.hid ((HC4.out.keep hb5).keep hal5)
  have HRW5 := Lib.hid ((HRW4.out.keep hb5).keep hal5)
  have HB5 := Lib.hid (bb_step (bb_step HB4.out hb5) hal5)
  have HSZ5 : Hid ((w5.alloc (.cells #[.int .i64 (N : Int), .slice au5 ps.length cu5, .slice av5 os.length cv5] 27)).heap.size = w5.heap.size + 1) := by unfold Hid; simp
  clear hu5' hv5' hb5 hal5 HC4 HRW4 HB4 HRD
  unfold circV
  have HCP := Lib.hid (copyB_any _ T _ HRW5.out (by have := HLN.out; have := HNT.out; omega))
  have hlT : nT ≤ 3000 := HLN.out
  go_wp2_with fail
  refine HCP.out.mono ?_
  rintro e w6 ⟨⟨v6, rfl, hown6⟩, hb6⟩
  have HKP : Hid (∀ W, Below (w5.heap.size + 1) w6 W → Cq W w2.heap.size N (.slice au ps.length cu) (.slice av os.length cv) ps os ∧ Cq W w5.heap.size N (.slice au5 ps.length cu5) (.slice av5 os.length cv5) ps os ∧ RowG (Value.int .u8) 0 W (.slice ab nT cb) T ∧ Below w.heap.size w W) := fun W hW => by
    have hb := hb6.trans (by rw [HSZ5.out]; exact hW)
    exact ⟨HC5.out.keep hb, HX5.out.keep hb, HRW5.out.keep hb, bb_step HB5.out hb⟩
  rw [HNT.out, HSZ5.out] at hown6
  have HO6 := Lib.hid hown6
  have hs6 : w5.heap.size + 1 ≤ w6.heap.size := by have := hb6.size; rw [HSZ5.out] at this; exact this
  obtain ⟨a6, c6, rfl, _, _⟩ := own_shape hown6
  clear hown6 hb6 HC5 HX5 HRW5 HB5 HCP
  have hz3 : n3 ≤ 40 := by have := HE.out; omega
  go_wp2_with (first
    | (at_builtin; refine wpList_appStr rfl _ _ rfl w6 (w5.heap.size + 1) _ nT T [99, 10] (by intro x hx; simp at hx; omega) HO6.out hs6 (by simp; omega) rfl rfl ?_; intro v7 w7 hown7 hb7; have HO7 := Lib.hid hown7; have HB7 := Lib.hid hb7; have hs7 : w5.heap.size + 1 ≤ w7.heap.size := Nat.le_trans hs6 hb7.size; have HZ7 := Lib.hid (HZ.out _ (HKP.out _ hb7).2.2.2); obtain ⟨a7, c7, rfl, _, _⟩ := own_shape hown7; clear hown7 hb7)
    | (at_builtin; refine wpList_appC 23 5 (.int .u8 0) 1 1 Tryd.underlying23 infoU8 rfl (by decide) (by decide) rfl _ _ rfl w7 (w5.heap.size + 1) _ _ _ a3 n3 c3 (zs.map (Value.int .u8)) HO7.out hs7 (by simp; omega) (by rw [List.length_map, HN3.out]; omega) (tail_cells HZ7.out HN3.out) (fun u hu => by obtain ⟨z, _, rfl⟩ := List.mem_map.1 hu; rfl) rfl rfl ?_; intro v8 w8 hown8 hap8; have HB8 := Lib.hid (HB7.out.trans hap8.below); have HO8 := Lib.hid hown8; obtain ⟨a8, c8, rfl, _, _⟩ := own_shape hown8; clear hown8 hap8))
  have hrow8 : RowG (Value.int .u8) 0 w8 (.slice a8 (nT + 2 + n3) c8) (T ++ 99 :: 10 :: zs) := by
    have h8 := HO8.out
    rw [← List.map_append, show (T ++ [99, 10]) ++ zs = T ++ 99 :: 10 :: zs by simp] at h8
    exact own_rowG h8
  refine (HRE.out w8 _ (HKP.out _ HB8.out).2.2.2 hrow8).mono ?_
  rintro e w9 ⟨⟨u9, v9, rfl, hu9, hv9⟩, hb9⟩
  obtain ⟨au9, cu9, rfl, hu9'⟩ := hu9
  obtain ⟨av9, cv9, rfl, hv9'⟩ := hv9
  have hy9 := Cq.new (n := (N : Int)) 27 (⟨au9, cu9, rfl, hu9'⟩ : PRow w9 (.slice au9 ps.length cu9) ps) (⟨av9, cv9, rfl, hv9'⟩ : Row w9 (.slice av9 os.length cv9) os)
  have hs8 := HB8.out.size
  have hby : Below (w5.heap.size + 1) w6 (w9.alloc (.cells #[.int .i64 (N : Int), .slice au9 ps.length cu9, .slice av9 os.length cv9] 27)) := HB8.out.trans ((bb_step hb9 ((Below.refl _ w9).alloc (Nat.le_refl _) _)).mono (by omega))
  have hsy : w5.heap.size + 1 ≤ (w9.alloc (.cells #[.int .i64 (N : Int), .slice au9 ps.length cu9, .slice av9 os.length cv9] 27)).heap.size := Nat.le_trans hs6 hby.size
  generalize hwy : w9.alloc (.cells #[.int .i64 (N : Int), .slice au9 ps.length cu9, .slice av9 os.length cv9] 27) = wy at *
  have HK9 : Hid (∀ W, Below wy.heap.size wy W → (Cq W w2.heap.size N (.slice au ps.length cu) (.slice av os.length cv) ps os ∧ Cq W w5.heap.size N (.slice au5 ps.length cu5) (.slice av5 os.length cv5) ps os ∧ Cq W w9.heap.size N (.slice au9 ps.length cu9) (.slice av9 os.length cv9) ps os) ∧ RowG (Value.int .u8) 0 W (.slice ab nT cb) T ∧ Below w.heap.size w W) := fun W hW => by
    obtain ⟨h1, h2, h3, h4⟩ := HKP.out W (hby.trans (hW.mono hsy))
    exact ⟨⟨h1, h2, hy9.keep hW⟩, h3, h4⟩
  clear hu9' hv9' hb9 hby hsy hy9 hrow8 hs8 HO8 HB8 HO7 HB7 HO6 HKP HZ7
  unfold circV
  obtain ⟨q0, q1, q2, _, _, q3⟩ := (HK9.out wy (Below.refl _ _)).1.1
  go_wp2_with fail
  clear hwy
  refine (HRY.out _ _ _ (HK9.out wy (Below.refl _ _)).2.2 (HK9.out wy (Below.refl _ _)).1.1.U (HK9.out wy (Below.refl _ _)).1.1.V).mono ?_
  rintro e w10 ⟨v10, rfl, hown10, hb10⟩
  have HR10 := Lib.hid (own_rowG (d := (0 : Int)) hown10)
  have HB10 := Lib.hid hb10
  obtain ⟨a10, c10, rfl, _, _⟩ := own_shape hown10
  have HSB := Lib.hid (sameBytes_any _ _ T T w10 (HK9.out _ hb10).2.1 HR10.out)
  simp only [decide_true] at HSB
  clear hown10 hb10 q0 q1 q2 q3
  go_wp2_with fail
  refine HSB.out.mono ?_
  rintro e w11 ⟨rfl, hd11⟩
  have HB11 := Lib.hid (bb_step HB10.out (below_drawsG hd11))
  clear hd11
  obtain ⟨q0, q1, q2, _, _, q3⟩ := (HK9.out _ HB11.out).1.1
  obtain ⟨x0, x1, x2, _, _, x3⟩ := (HK9.out _ HB11.out).1.2.1
  go_wp2_with fail
  refine (sameCir_one (N : Int) _ _ _ _ ps os w11 (HK9.out _ HB11.out).1.2.1.U (HK9.out _ HB11.out).1.2.1.V (HK9.out _ HB11.out).1.1.U (HK9.out _ HB11.out).1.1.V).mono ?_
  rintro e w12 ⟨rfl, hb12⟩
  have HB12 := Lib.hid (bb_step HB11.out hb12)
  clear hb12 q0 q1 q2 q3 x0 x1 x2 x3
  obtain ⟨q0, q1, q2, _, _, q3⟩ := (HK9.out _ HB12.out).1.1
  obtain ⟨x0, x1, x2, _, _, x3⟩ := (HK9.out _ HB12.out).1.2.2
  go_wp2_with fail
  refine (sameCir_one (N : Int) _ _ _ _ ps os w12 (HK9.out _ HB12.out).1.2.2.U (HK9.out _ HB12.out).1.2.2.V (HK9.out _ HB12.out).1.1.U (HK9.out _ HB12.out).1.1.V).mono ?_
  rintro e w13 ⟨rfl, hb13⟩
  have HB13 := Lib.hid (HK9.out _ (bb_step HB12.out hb13)).2.2
  clear hb13 q0 q1 q2 q3 x0 x1 x2 x3
  go_wp2_with fail
  go_ret
  exact ⟨rfl, HB13.out⟩
theorem lawAb_any (A : Nat → Addr) (i : Int) (a1 : Option Addr) (c1 : Nat) (ls : List Int) (a2 : Option Addr) (c2 : Nat) (ts : List Int) (a3 : Option Addr) (c3 : Nat) (zs : List Int) (w : World) (hS : Sents w A) (ht : Tabs w)
    (hl : RowAt w a1 c1 ls) (hlb : ∀ y ∈ ls, in64 y) (hts : RowAt w a2 c2 ts) (htb : ∀ y ∈ ts, in64 y) (hz : RowGAt (Value.int .u8) 0 w a3 c3 zs) (hzb : Bts zs) :
    Calls Tryd.prog 7 #[.int .i64 i, .slice a1 ls.length c1, .slice a2 ts.length c2, .slice a3 zs.length c3] w fun e w' => e = .returned (.bool true) ∧ Below w.heap.size w w' := by
  by_cases ho : 120 < ls.length ∨ 30 < ts.length ∨ 40 < zs.length ∨ i < 0 ∨ 40 < i
  · exact lawAb_out A i a1 c1 ls.length a2 c2 ts.length a3 c3 zs.length w hS ht ho
  · obtain ⟨N, rfl⟩ : ∃ N : Nat, i = (N : Int) := ⟨i.toNat, by omega⟩
    exact lawAb_in A N a1 c1 ls a2 c2 ts a3 c3 zs w hS ht hl hlb hts htb hz hzb (fun h => ho (.inl h)) (fun h => ho (.inr (.inl h))) (fun h => ho (.inr (.inr (.inl h)))) (by omega)
end Go.Proofs.YtfkodpglgeghlaaDoor
