/- Contract of dimacs.Bytes: the text ('textL'). Conditions: the clauses read as lists of small ints; the text is not too long; the table of powers of ten is as the program lays it. -/
import Derived.Test.YtfoohdknjacenaaDoorAppI2
import Derived.Test.YtfoohdknjacenaaDoorClIG
namespace Go.Proofs.YtfoohdknjacenaaDoor
open Go.RowKit

def litT (l : Int) : List Int := itoaL l ++ [32]
def clsT (c : List Int) : List Int := c.flatMap litT ++ [48, 10]
def headT (v n : Int) : List Int := [112, 32, 99, 110, 102, 32] ++ itoaL v ++ [32] ++ itoaL n ++ [10]
def textL (v : Int) (xss : List (List Int)) : List Int := headT v xss.length ++ xss.flatMap clsT
theorem take_flat {α : Type} (f : α → List Int) (d : α) (l : List α) (k : Nat) (h : k < l.length) : (l.take (k + 1)).flatMap f = (l.take k).flatMap f ++ f (l.getD k d) := by
  rw [List.take_succ_eq_append_getElem h, List.flatMap_append]
  simp [List.getD, h]
theorem take_flat_len {α : Type} (f : α → List Int) (l : List α) (k : Nat) : ((l.take k).flatMap f).length ≤ (l.flatMap f).length := by
  have : (l.flatMap f).length = ((l.take k).flatMap f).length + ((l.drop k).flatMap f).length := by
    rw [← List.length_append, ← List.flatMap_append, List.take_append_drop]
  omega
theorem getD_memR {xss : List (List Int)} {k : Nat} (h : k < xss.length) : xss.getD k [] ∈ xss := by simp [List.getD, h]
theorem getD_memI {xs : List Int} {k : Nat} (h : k < xs.length) : xs.getD k 0 ∈ xs := by simp [List.getD, h]

theorem bopen {w : World} {B m : Nat} {v : Value} {xs : List Int} (h : w.ownsRow B 5 1 v m (xs.map (Value.int .u8))) : ∃ a k c, v = .slice a k c ∧ Hid (k = xs.length) ∧ Hid (w.ownsRow B 5 1 (.slice a k c) k (xs.map (Value.int .u8))) := by
  have hm : m = xs.length := by have := h.1; simpa using this.symm
  obtain ⟨a, c, rfl, _, _⟩ := own_shape h
  exact ⟨a, m, c, rfl, hm, h⟩
theorem appInt_k (B : Nat) (i : Int) (h0 : -1000000000 < i) (h1 : i < 1000000000) (sv : Value) (k : Nat) (xs : List Int) (w : World) (hown : w.ownsRow B 5 1 sv k (xs.map (Value.int .u8))) (hBw : B ≤ w.heap.size) (hl : xs.length ≤ 100000) (ht : Lib.TabBelow Tryd.prog B w "internal/strconv.uint64pow10" .u64 Lib.pow10Tab) :
    Calls Tryd.prog 38 #[sv, .int .i64 i, .int .i64 10] w fun e w' => ∃ v', e = .returned v' ∧ w'.ownsRow B 5 1 v' (xs ++ itoaL i).length ((xs ++ itoaL i).map (Value.int .u8)) ∧ Below B w w' := by
  have hk : k = xs.length := by have := hown.1; simpa using this.symm
  subst hk
  exact appInt_any B i h0 h1 sv xs w hown hBw hl ht

set_option maxRecDepth 8000 in
set_option maxHeartbeats 4000000 in
theorem bytesD_any (vn : Nat) (a : Option Addr) (c : Nat) (xss : List (List Int)) (w : World) (hvn : vn < 1000000) (hr : RowsAt w a c xss) (hint : ∀ xs ∈ xss, ∀ l ∈ xs, -1000000000 < l ∧ l < 1000000000) (hT : (textL vn xss).length ≤ 10000) (hn1 : xss.length ≤ 10000) (hn2 : ∀ xs ∈ xss, xs.length ≤ 10000) (ht : Tabs w) :
    Calls Tryd.prog 23 #[.agg #[.int .i64 (vn : Int), .slice a xss.length c]] w fun e w' => (∃ v, e = .returned v ∧ w'.ownsRow w.heap.size 5 1 v (textL vn xss).length ((textL vn xss).map (Value.int .u8))) ∧ Below w.heap.size w w' := by
  obtain ⟨hc1, hc2, hr⟩ := hr
  unfold maxLen at hc2
  have HR := Lib.hid hr; clear hr
  have HI := Lib.hid hint; clear hint
  have HN2 := Lib.hid hn2; clear hn2
  have HTB := Lib.hid (fun W B (hb : Below w.heap.size w W) (hB : w.heap.size ≤ B) => ht.at B hb hB)
  clear ht
  have kc := Lib.run_convert_bytes_const (P := Tryd.prog) (w.alloc (.cells #[.int .i64 (vn : Int), .slice a xss.length c] 27)) 34 5 #[.int .u8 112, .int .u8 32, .int .u8 99, .int .u8 110, .int .u8 102, .int .u8 32] 6 6 Tryd.underlying34 Tryd.underlying5
  rw [show (w.alloc (.cells #[.int .i64 (vn : Int), .slice a xss.length c] 27)).heap.size = w.heap.size + 1 by simp] at kc
  have hh1 : ([112, 32, 99, 110, 102, 32] ++ itoaL vn ++ [32] ++ itoaL xss.length ++ [10]).length ≤ 10000 := by
    have : (textL vn xss).length = ([112, 32, 99, 110, 102, 32] ++ itoaL vn ++ [32] ++ itoaL xss.length ++ [10]).length + (xss.flatMap clsT).length := by unfold textL headT; rw [List.length_append]
    omega
  have hk1 : ∀ k, (headT vn xss.length ++ (xss.take k).flatMap clsT).length ≤ 10000 := fun k => by
    have h1 := take_flat_len clsT xss k
    have : (textL vn xss).length = (headT vn xss.length).length + (xss.flatMap clsT).length := by unfold textL; rw [List.length_append]
    rw [List.length_append]
    omega
  have hk2 : ∀ k j, k < xss.length → (headT vn xss.length ++ (xss.take k).flatMap clsT ++ ((xss.getD k []).take j).flatMap litT).length ≤ 10000 := fun k j hk => by
    have h1 := hk1 (k + 1)
    have h2 := take_flat_len litT (xss.getD k []) j
    rw [take_flat clsT [] xss k hk] at h1
    unfold clsT at h1
    simp only [List.length_append] at h1 ⊢
    unfold clsT
    omega
  have HK1 := Lib.hid hk1; clear hk1
  have HK2 := Lib.hid hk2; clear hk2
  have HH1 := Lib.hid hh1; clear hh1
  have HTX : Hid (∀ (v : Value) (W : World), W.ownsRow (w.heap.size + 2) 5 1 v (headT vn xss.length ++ (xss.take xss.length).flatMap clsT).length ((headT vn xss.length ++ (xss.take xss.length).flatMap clsT).map (Value.int .u8)) → W.ownsRow w.heap.size 5 1 v (textL vn xss).length ((textL vn xss).map (Value.int .u8))) := fun v W h => by
    rw [List.take_length] at h
    exact own_base h (by omega)
  have HSTEP := Lib.hid (fun k (hk : k < xss.length) => take_flat clsT [] xss k hk)
  have HMEM := Lib.hid (fun k (hk : k < xss.length) => getD_memR (xss := xss) hk)
  generalize hN : xss.length = n at *
  have HN := Lib.hid hN; clear hN
  have hF : Hid (∀ W, (∀ j u, (([112, 32, 99, 110, 102, 32] : List Int).map (Value.int .u8))[j]? = some u → W.cell? ⟨w.heap.size + 1, j, none⟩ = some u) → w.heap.size + 1 < W.heap.size → Lib.TabBelow Tryd.prog w.heap.size W "internal/strconv.uint64pow10" .u64 Lib.pow10Tab → Calls Tryd.prog 38 #[.slice (some ⟨w.heap.size + 1, 0, none⟩) 6 6, .int .i64 (vn : Int), .int .i64 10] W fun e w' => ∃ v', e = .returned v' ∧ w'.ownsRow W.heap.size 5 1 v' ([112, 32, 99, 110, 102, 32] ++ itoaL vn).length (([112, 32, 99, 110, 102, 32] ++ itoaL vn).map (Value.int .u8)) ∧ Below W.heap.size W w') := fun W h h1 h2 => appFirst2_any (w.heap.size + 1) 6 vn (by omega) [112, 32, 99, 110, 102, 32] rfl (by omega) W h h1 h2.here
  have hw0s : (w.alloc (.cells #[.int .i64 (vn : Int), .slice a n c] 27)).heap.size = w.heap.size + 1 := by simp
  have HCELL : Hid (∀ j u, (([112, 32, 99, 110, 102, 32] : List Int).map (Value.int .u8))[j]? = some u → ((w.alloc (.cells #[.int .i64 (vn : Int), .slice a n c] 27)).alloc (.cells #[.int .u8 112, .int .u8 32, .int .u8 99, .int .u8 110, .int .u8 102, .int .u8 32] 5 (6, 7))).cell? ⟨w.heap.size + 1, j, none⟩ = some u) := fun j u hj => by
    rw [← hw0s, World.cell?_alloc_mark]
    simpa using hj
  have HBOX : Hid (∀ W, Below (w.heap.size + 1) (w.alloc (.cells #[.int .i64 (vn : Int), .slice a n c] 27)) W → W.cell? ⟨w.heap.size, 0, none⟩ = some (.int .i64 (vn : Int)) ∧ W.cell? ⟨w.heap.size, 1, none⟩ = some (.slice a n c)) := fun W hW => by
    rw [← hw0s] at hW
    obtain ⟨hc, _⟩ := bcell hW
    exact ⟨by rw [hc _ _ (by simp), World.cell?_alloc_at _ _ _ _ (by simp)]; rfl, by rw [hc _ _ (by simp), World.cell?_alloc_at _ _ _ _ (by simp)]; rfl⟩
  have HW0 : Hid (Below w.heap.size w (w.alloc (.cells #[.int .i64 (vn : Int), .slice a n c] 27))) := (Below.refl _ w).alloc (Nat.le_refl _) _
  clear hw0s
  go_enter Tryd.func23, Tryd.ntmps23
  go_wp2_with (first
    | (go_at_call 38; refine (appInt_k (w.heap.size + 2) n (by omega) (by omega) _ _ _ w2 HO2.out hs2 (by have := HH1.out; simp at this ⊢; omega) (HTB.out _ _ hw2 (by omega))).mono ?_; rintro e w3 ⟨v3, rfl, hown3, hb3⟩; have hz3 := hz2.trans (hb3.mono (by omega)); have hs3 : w.heap.size + 2 ≤ w3.heap.size := (by have := hb3.size; omega); obtain ⟨a3, k3, c3, rfl, HK3, HO3⟩ := bopen hown3; clear hown3)
    | (go_at_call 38; refine (hF.out _ HCELL.out (by simp) (HTB.out _ w.heap.size (HW0.out.alloc (by simp) _) (Nat.le_refl _))).mono ?_; rintro e w1 ⟨v1, rfl, hown1, hb1⟩; obtain ⟨a1, k1, c1, rfl, HK1', HO1⟩ := bopen (own_base hown1 (show w.heap.size + 2 ≤ _ by simp)); clear hown1; have hz1 : Below (w.heap.size + 1) (w.alloc (.cells #[.int .i64 (vn : Int), .slice a n c] 27)) w1 := ((Below.refl _ _).alloc (by simp) _).trans (hb1.mono (by simp)); have hs1 : w.heap.size + 2 ≤ w1.heap.size := (by have := hb1.size; simp at this; omega); clear hb1)
    | (at_builtin; refine wpList_app1G (Value.int .u8) 34 5 (.int .u8 0) 1 Tryd.underlying34 infoU8 rfl (by decide) rfl _ _ rfl w3 (w.heap.size + 2) _ _ _ 10 rfl HO3.out hs3 (by rw [HK3.out]; have := HH1.out; simp at this ⊢; omega) rfl rfl ?_; intro v4 w4 hown4 hap4; have hz4 := hz3.trans (hap4.below.mono (by omega)); have hs4 : w.heap.size + 2 ≤ w4.heap.size := (by have := hap4.below.size; omega); obtain ⟨a4, k4, c4, rfl, HK4, HO4⟩ := bopen hown4; clear hown4; obtain ⟨hx0, hx1⟩ := HBOX.out _ hz4)
    | (at_builtin; refine wpList_app1G (Value.int .u8) 34 5 (.int .u8 0) 1 Tryd.underlying34 infoU8 rfl (by decide) rfl _ _ rfl w1 (w.heap.size + 2) _ _ _ 32 rfl HO1.out hs1 (by rw [HK1'.out]; have := HH1.out; simp at this ⊢; omega) rfl rfl ?_; intro v2 w2 hown2 hap2; have hz2 := hz1.trans (hap2.below.mono (by omega)); have hw2 := HW0.out.trans (hz2.mono (by omega)); have hs2 : w.heap.size + 2 ≤ w2.heap.size := (by have := hap2.below.size; omega); obtain ⟨a2, k2, c2, rfl, HK2', HO2⟩ := bopen hown2; clear hown2; obtain ⟨hy0, hy1⟩ := HBOX.out _ hz2))
  have HST : Hid (k4 = (headT vn n ++ (xss.take 0).flatMap clsT).length ∧ w4.ownsRow (w.heap.size + 2) 5 1 (.slice a4 k4 c4) k4 ((headT vn n ++ (xss.take 0).flatMap clsT).map (Value.int .u8))) := by
    rw [List.take_zero, List.flatMap_nil, List.append_nil]
    exact ⟨HK4.out, HO4.out⟩
  clear HK4 HO4 HK3 HO3 HK2' HO2 HK1' HO1 hF HCELL kc hx0 hx1 hy0 hy1 hap2 hap4 hb3
  generalize w.alloc (.cells #[.int .i64 (vn : Int), .slice a n c] 27) = w0 at *
  go_loopw [3, 28] (fun bv i wr => ∃ (k m : Nat) (ab : Option Addr) (cb : Nat), k ≤ n ∧ i = .int .i64 k ∧ bv = .slice ab m cb ∧ Hid (m = (headT vn n ++ (xss.take k).flatMap clsT).length ∧ wr.ownsRow (w.heap.size + 2) 5 1 (.slice ab m cb) m ((headT vn n ++ (xss.take k).flatMap clsT).map (Value.int .u8))) ∧ Below (w.heap.size + 1) w0 wr ∧ w.heap.size + 2 ≤ wr.heap.size) (fun _ i _ => n - (intOf i).toNat)
  case atStart => exact ⟨0, _, _, _, Nat.zero_le _, rfl, rfl, HST.out, hz4, hs4⟩
  case round =>
    obtain ⟨k, m, ab, cb, hk, rfl, rfl, HRO, hzr, hsr⟩ := hrel
    clear HST hz4 hs4 hz3 hs3 hz2 hs2 hz1 hs1 hw2
    by_cases hlt : k < n
    · obtain ⟨b, off, ha, hb, hc⟩ := HR.out.resolve_left (by omega)
      subst ha
      obtain ⟨v, g1, hv⟩ := hc k hlt
      clear hc
      have hwr : Below w.heap.size w wr := HW0.out.trans (hzr.mono (by omega))
      have g1' := (hwr.cell (p := ⟨b, off + k, none⟩) hb).trans g1
      have hkl : k < xss.length := by rw [HN.out]; exact hlt
      have HMM := Lib.hid (HMEM.out k hlt)
      have HSS := Lib.hid (HSTEP.out k hlt)
      have HKK := Lib.hid (fun j => HK2.out k j hlt)
      have HIK := Lib.hid (HI.out _ HMM.out)
      have HNK := HN2.out _ HMM.out
      clear hkl HMM g1
      obtain ⟨av, cv, rfl, hcv1, hcv2, hrv⟩ := hv
      unfold maxLen at hcv2
      generalize hH : headT vn n ++ (xss.take k).flatMap clsT = hd at *
      generalize xss.getD k [] = ys at *
      have HRV := Lib.hid hrv; clear hrv
      generalize hml : ys.length = ml at *
      have HML := Lib.hid hml; clear hml
      have HHD := Lib.hid hH; clear hH
      go_wp2_with fail
      rename World => wd
      have HST2 : Hid (m = (hd ++ (ys.take 0).flatMap litT).length ∧ wd.ownsRow (w.heap.size + 2) 5 1 (.slice ab m cb) m ((hd ++ (ys.take 0).flatMap litT).map (Value.int .u8))) := by
        rw [List.take_zero, List.flatMap_nil, List.append_nil]
        exact HRO.out
      go_loopw [3, 34] (fun bv i wr => ∃ (j m : Nat) (ab : Option Addr) (cb : Nat), j ≤ ml ∧ i = .int .i64 j ∧ bv = .slice ab m cb ∧ Hid (m = (hd ++ (ys.take j).flatMap litT).length ∧ wr.ownsRow (w.heap.size + 2) 5 1 (.slice ab m cb) m ((hd ++ (ys.take j).flatMap litT).map (Value.int .u8))) ∧ Below (w.heap.size + 1) w0 wr ∧ w.heap.size + 2 ≤ wr.heap.size) (fun _ i _ => ml - (intOf i).toNat)
      case atStart => exact ⟨0, _, _, _, Nat.zero_le _, rfl, rfl, HST2.out, hzr, hsr⟩
      case round =>
        obtain ⟨j, m2, ab2, cb2, hj, rfl, rfl, HRO2, hzr2, hsr2⟩ := hrel
        clear HST2 hsr g1' hwr
        by_cases hjl : j < ml
        · obtain ⟨b2, off2, ha2, hb2, hc2'⟩ := HRV.out.resolve_left (by have := HML.out; omega)
          subst ha2
          have hjy : j < ys.length := by rw [HML.out]; exact hjl
          have hwr2 : Below w.heap.size w wr := HW0.out.trans (hzr2.mono (by omega))
          have g2 := (hwr2.cell (p := ⟨b2, off2 + j, none⟩) hb2).trans (hc2' j (by first | exact hjl | exact hjy))
          have HB9 := Lib.hid (HIK.out _ (getD_memI hjy))
          have HSJ := Lib.hid (take_flat litT 0 ys j hjy)
          have HKJ := Lib.hid (HKK.out (j + 1))
          rw [HSJ.out] at HKJ
          clear hc2' hjy
          generalize ys.getD j 0 = l at *
          have HL9 := Lib.hid (show (litT l).length = (itoaL l).length + 1 by simp [litT])
          go_wp2_with (first
            | (go_at_call 38; refine (appInt_k (w.heap.size + 2) l HB9.out.1 HB9.out.2 _ _ _ wr HRO2.out.2 hsr2 (by have := HKJ.out; simp at this ⊢; omega) (HTB.out _ _ hwr2 (by omega))).mono ?_; rintro e w3 ⟨v3, rfl, hown3, hb3⟩; have hz3 := hzr2.trans (hb3.mono (by omega)); have hs3 : w.heap.size + 2 ≤ w3.heap.size := (by have := hb3.size; omega); obtain ⟨a3, k3, c3, rfl, HK3, HO3⟩ := bopen hown3; clear hown3)
            | (at_builtin; refine wpList_app1G (Value.int .u8) 34 5 (.int .u8 0) 1 Tryd.underlying34 infoU8 rfl (by decide) rfl _ _ rfl w3 (w.heap.size + 2) _ _ _ 32 rfl HO3.out hs3 (by rw [HK3.out]; have h7 := HKJ.out; have h8 := HL9.out; simp only [List.length_append] at h7 ⊢; omega) rfl rfl ?_; intro v4 w4 hown4 hap4; have hz4 := hz3.trans (hap4.below.mono (by omega)); have hs4 : w.heap.size + 2 ≤ w4.heap.size := (by have := hap4.below.size; omega); obtain ⟨a4, k4, c4, rfl, HK4, HO4⟩ := bopen hown4; clear hown4))
          go_roundw
          case rel =>
            have he : hd ++ (ys.take (j + 1)).flatMap litT = hd ++ (ys.take j).flatMap litT ++ itoaL l ++ [32] := by rw [HSJ.out]; unfold litT; simp
            exact ⟨j + 1, k4, a4, c4, by omega, by go_num, rfl, by rw [he]; exact ⟨HK4.out, HO4.out⟩, hz4, hs4⟩
          case measure => simp [intOf]; omega
        · have hjm : j = ml := by omega
          subst hjm
          have hwr2 : Below w.heap.size w wr := HW0.out.trans (hzr2.mono (by omega))
          have HKE := Lib.hid (HKK.out j)
          have HTK := Lib.hid (show ys.take j = ys from List.take_of_length_le (by rw [HML.out]; exact Nat.le_refl _))
          rw [HTK.out] at HRO2 HKE
          go_wp2_with (at_builtin; refine wpList_appStr rfl _ _ rfl wr (w.heap.size + 2) _ _ _ [48, 10] (by intro x hx; simp at hx; omega) HRO2.out.2 hsr2 (by rw [HRO2.out.1]; have := HKE.out; simp at this ⊢; omega) rfl rfl ?_; intro v4 w4 hown4 hb4; have hz4 := hzr2.trans (hb4.mono (by omega)); have hs4 : w.heap.size + 2 ≤ w4.heap.size := (by have := hb4.size; omega); obtain ⟨a4, k4, c4, rfl, HK4, HO4⟩ := bopen hown4; clear hown4)
          go_roundw
          case rel =>
            have he : headT vn n ++ (xss.take (k + 1)).flatMap clsT = hd ++ ys.flatMap litT ++ [48, 10] := by rw [HSS.out, ← List.append_assoc, HHD.out]; unfold clsT; rw [List.append_assoc]
            exact ⟨k + 1, k4, a4, c4, by omega, by go_num, rfl, by rw [he]; exact ⟨HK4.out, HO4.out⟩, hz4, hs4⟩
          case measure => simp [intOf]; omega
    · have hkn : k = n := by omega
      subst hkn
      have hwr : Below w.heap.size w wr := HW0.out.trans (hzr.mono (by omega))
      have HFIN := Lib.hid (HTX.out (.slice ab m cb) wr (by have h1 := HRO.out.1; have h2 := HRO.out.2; rw [← h1]; exact h2))
      clear HTX HRO
      go_wp2_with fail
      go_ret
      exact ⟨⟨_, rfl, HFIN.out⟩, hwr⟩
end Go.Proofs.YtfoohdknjacenaaDoor
