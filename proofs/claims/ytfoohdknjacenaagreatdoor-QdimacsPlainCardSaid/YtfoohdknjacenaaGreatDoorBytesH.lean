/- Contracts of the document's own skolemref1.head, CNFBytes: the text ('textL'). Conditions: the clauses read as lists of small ints; the text is not too long; the table of powers of ten is as the program lays it. -/
import Derived.Test.YtfoohdknjacenaaGreatDoorBytesR
namespace Go.Proofs.YtfoohdknjacenaaGreatDoor
open Go.RowKit

set_option maxRecDepth 8000 in
set_option maxHeartbeats 4000000 in
theorem refHeadB_any (vn n : Nat) (a : Option Addr) (c : Nat) (w : World) (hvn : vn < 1000000) (hn1 : n ≤ 10000) (hT : (headT vn n).length ≤ 10000) (ht : Tabs w) :
    Calls Tryz.prog 47 #[.agg #[.int .i64 (vn : Int), .slice a n c]] w fun e w' => (∃ v, e = .returned v ∧ w'.ownsRow (w.heap.size + 2) 5 1 v (headT vn n).length ((headT vn n).map (Value.int .u8))) ∧ Below w.heap.size w w' := by
  have HTB := Lib.hid (fun W B (hb : Below w.heap.size w W) (hB : w.heap.size ≤ B) => ht.at B hb hB)
  clear ht
  have kc := Lib.run_convert_bytes_const (P := Tryz.prog) (w.alloc (.cells #[.int .i64 (vn : Int), .slice a n c] 27)) 22 5 #[.int .u8 112, .int .u8 32, .int .u8 99, .int .u8 110, .int .u8 102, .int .u8 32] 6 6 Tryz.underlying22 Tryz.underlying5
  have hw0s : (w.alloc (.cells #[.int .i64 (vn : Int), .slice a n c] 27)).heap.size = w.heap.size + 1 := by simp
  rw [hw0s] at kc
  have HH1 := Lib.hid (show ([112, 32, 99, 110, 102, 32] ++ itoaL vn ++ [32] ++ itoaL n ++ [10]).length ≤ 10000 from hT)
  have HTX := Lib.hid (show headT vn n = [112, 32, 99, 110, 102, 32] ++ itoaL vn ++ [32] ++ itoaL n ++ [10] from rfl)
  clear hT
  have hF : Hid (∀ W, (∀ j u, (([112, 32, 99, 110, 102, 32] : List Int).map (Value.int .u8))[j]? = some u → W.cell? ⟨w.heap.size + 1, j, none⟩ = some u) → w.heap.size + 1 < W.heap.size → Lib.TabBelow Tryz.prog w.heap.size W "internal/strconv.uint64pow10" .u64 Lib.pow10Tab → Calls Tryz.prog 66 #[.slice (some ⟨w.heap.size + 1, 0, none⟩) 6 6, .int .i64 (vn : Int), .int .i64 10] W fun e w' => ∃ v', e = .returned v' ∧ w'.ownsRow W.heap.size 5 1 v' ([112, 32, 99, 110, 102, 32] ++ itoaL vn).length (([112, 32, 99, 110, 102, 32] ++ itoaL vn).map (Value.int .u8)) ∧ Below W.heap.size W w') := fun W h h1 h2 => appFirst2_any (w.heap.size + 1) 6 vn (by omega) [112, 32, 99, 110, 102, 32] rfl (by omega) W h h1 h2.here
  have HCELL : Hid (∀ j u, (([112, 32, 99, 110, 102, 32] : List Int).map (Value.int .u8))[j]? = some u → ((w.alloc (.cells #[.int .i64 (vn : Int), .slice a n c] 27)).alloc (.cells #[.int .u8 112, .int .u8 32, .int .u8 99, .int .u8 110, .int .u8 102, .int .u8 32] 5 (6, 7))).cell? ⟨w.heap.size + 1, j, none⟩ = some u) := fun j u hj => by
    rw [← hw0s, World.cell?_alloc_mark]
    simpa using hj
  have HBOX : Hid (∀ W, Below (w.heap.size + 1) (w.alloc (.cells #[.int .i64 (vn : Int), .slice a n c] 27)) W → W.cell? ⟨w.heap.size, 0, none⟩ = some (.int .i64 (vn : Int)) ∧ W.cell? ⟨w.heap.size, 1, none⟩ = some (.slice a n c)) := fun W hW => by
    rw [← hw0s] at hW
    obtain ⟨hc, _⟩ := bcell hW
    exact ⟨by rw [hc _ _ (by simp), World.cell?_alloc_at _ _ _ _ (by simp)]; rfl, by rw [hc _ _ (by simp), World.cell?_alloc_at _ _ _ _ (by simp)]; rfl⟩
  have HW0 : Hid (Below w.heap.size w (w.alloc (.cells #[.int .i64 (vn : Int), .slice a n c] 27))) := (Below.refl _ w).alloc (Nat.le_refl _) _
  have ha : ∀ g k : Nat, (⟨g, 0, none⟩ : Addr).add k = ⟨g, k, none⟩ := fun g k => by unfold Addr.add; split <;> simp_all
  have HAD := Lib.hid ha; clear ha
  clear hw0s
  go_enter Tryz.func47, Tryz.ntmps47
  go_wp2_with (first
    | (go_at_call 66; refine (hF.out _ HCELL.out (by simp) (HTB.out _ w.heap.size (HW0.out.alloc (by simp) _) (Nat.le_refl _))).mono ?_; rintro e w1 ⟨v1, rfl, hown1, hb1⟩; obtain ⟨a1, k1, c1, rfl, HK1', HO1⟩ := bopen (own_base hown1 (show w.heap.size + 2 ≤ _ by simp)); clear hown1; have hz1 : Below (w.heap.size + 1) (w.alloc (.cells #[.int .i64 (vn : Int), .slice a n c] 27)) w1 := ((Below.refl _ _).alloc (by simp) _).trans (hb1.mono (by simp)); have hs1 : w.heap.size + 2 ≤ w1.heap.size := (by have := hb1.size; simp at this; omega); clear hb1; obtain ⟨hx0, hx1⟩ := HBOX.out _ hz1))
  have hxl : w.heap.size < w1.heap.size := by omega
  go_region_law (first
    | (refine step_appU rfl _ _ rfl _ (w.heap.size + 2) (.slice a1 k1 c1) k1 ([112, 32, 99, 110, 102, 32] ++ itoaL vn) ⟨w1.heap.size, 0, none⟩ 1 1 [32] (by exact own_keep HO1.out (by first | exact (Below.refl _ _).alloc (Nat.le_refl _) _ | exact ((Below.refl _ _).alloc (Nat.le_refl _) _).drew | exact ((Below.refl _ _).drew).alloc (by simp) _)) (by simp; omega) (by rw [HK1'.out]; have := HH1.out; simp at this ⊢; omega) rfl (by intro q hq; rw [HAD.out]; first | (rw [World.cell?_alloc_at _ _ _ _ (by simp)]; match q, hq with | 0, _ => rfl) | (simp; match q, hq with | 0, _ => rfl)) rfl rfl ?_; intro v2 w2 hown2 hb2; have hz2 : Below (w.heap.size + 1) (w.alloc (.cells #[.int .i64 (vn : Int), .slice a n c] 27)) w2 := Below.trans (Below.trans hz1 (by first | exact (Below.refl _ _).alloc (by omega) _ | exact ((Below.refl _ _).alloc (by omega) _).drew | exact ((Below.refl _ _).drew).alloc (by simp; omega) _)) (hb2.mono (by omega)); have hw2 := HW0.out.trans (hz2.mono (by omega)); have hs2 : w.heap.size + 2 ≤ w2.heap.size := (by have := hb2.size; simp at this; omega); obtain ⟨a2, k2, c2, rfl, HK2', HO2⟩ := bopen hown2; clear hown2; obtain ⟨hy0, hy1⟩ := HBOX.out _ hz2)
    | (go_simp; go_at_call 66; refine (appInt_k (w.heap.size + 2) n (by omega) (by omega) _ _ _ w2 HO2.out hs2 (by have := HH1.out; simp at this ⊢; omega) (HTB.out _ _ hw2 (by omega))).mono ?_; rintro e w3 ⟨v3, rfl, hown3, hb3⟩; have hz3 := hz2.trans (hb3.mono (by omega)); have hs3 : w.heap.size + 2 ≤ w3.heap.size := (by have := hb3.size; omega); obtain ⟨a3, k3, c3, rfl, HK3, HO3⟩ := bopen hown3; clear hown3))
  all_goals
    go_wp2_with (at_builtin; refine wpList_app1G (Value.int .u8) 22 5 (.int .u8 0) 1 Tryz.underlying22 infoU8 rfl (by decide) rfl _ _ rfl w3 (w.heap.size + 2) _ _ _ 10 rfl HO3.out hs3 (by rw [HK3.out]; have := HH1.out; simp at this ⊢; omega) rfl rfl ?_; intro v4 w4 hown4 hap4; have hz4 := hz3.trans (hap4.below.mono (by omega)); obtain ⟨a4, k4, c4, rfl, HK4, HO4⟩ := bopen hown4; clear hown4)
    go_ret
    rw [HTX.out, ← HK4.out]
    exact ⟨⟨_, rfl, HO4.out⟩, HW0.out.trans (hz4.mono (by omega))⟩

set_option maxHeartbeats 4000000 in
theorem refBytes_any (vn : Nat) (a : Option Addr) (c : Nat) (xss : List (List Int)) (w : World) (hvn : vn < 1000000) (hr : RowsAt w a c xss) (hint : ∀ xs ∈ xss, ∀ l ∈ xs, -1000000000 < l ∧ l < 1000000000) (hT : (textL vn xss).length ≤ 10000) (hn1 : xss.length ≤ 10000) (ht : Tabs w) :
    Calls Tryz.prog 18 #[.agg #[.int .i64 (vn : Int), .slice a xss.length c]] w fun e w' => (∃ v, e = .returned v ∧ w'.ownsRow w.heap.size 5 1 v (textL vn xss).length ((textL vn xss).map (Value.int .u8))) ∧ Below w.heap.size w w' := by
  obtain ⟨hc1, hc2, hr⟩ := hr
  unfold maxLen at hc2
  have HR := Lib.hid hr; clear hr
  have HI := Lib.hid hint; clear hint
  have HTB := Lib.hid (fun W B (hb : Below w.heap.size w W) (hB : w.heap.size ≤ B) => ht.at B hb hB)
  have HTK := Lib.hid (fun W (hb : Below w.heap.size w W) => ht.keep hb)
  clear ht
  have hk1 : ∀ k, (headT vn xss.length ++ (xss.take k).flatMap clsT).length ≤ 10000 := fun k => by
    have h1 := take_flat_len clsT xss k
    have : (textL vn xss).length = (headT vn xss.length).length + (xss.flatMap clsT).length := by unfold textL; rw [List.length_append]
    rw [List.length_append]
    omega
  have HK1 := Lib.hid hk1; clear hk1
  have HTX : Hid (∀ (v : Value) (W : World) (m : Nat), m = (headT vn xss.length ++ (xss.take xss.length).flatMap clsT).length → W.ownsRow (w.heap.size + 1) 5 1 v m ((headT vn xss.length ++ (xss.take xss.length).flatMap clsT).map (Value.int .u8)) → W.ownsRow w.heap.size 5 1 v (textL vn xss).length ((textL vn xss).map (Value.int .u8))) := fun v W m hm h => by
    rw [List.take_length] at h hm
    subst hm
    exact own_base h (by omega)
  have HSTEP := Lib.hid (fun k (hk : k < xss.length) => take_flat clsT [] xss k hk)
  have HMEM := Lib.hid (fun k (hk : k < xss.length) => getD_memR (xss := xss) hk)
  have HHB := Lib.hid (fun W (hW : Below w.heap.size w W) => refHeadB_any vn xss.length a c W hvn hn1 (by have := HK1.out 0; simp at this; exact this) (HTK.out W hW))
  generalize hN : xss.length = n at *
  have HN := Lib.hid hN; clear hN
  have hw0s : (w.alloc (.cells #[.int .i64 (vn : Int), .slice a n c] 27)).heap.size = w.heap.size + 1 := by simp
  have HBOX : Hid (∀ W, Below (w.heap.size + 1) (w.alloc (.cells #[.int .i64 (vn : Int), .slice a n c] 27)) W → W.cell? ⟨w.heap.size, 0, none⟩ = some (.int .i64 (vn : Int)) ∧ W.cell? ⟨w.heap.size, 1, none⟩ = some (.slice a n c)) := fun W hW => by
    rw [← hw0s] at hW
    obtain ⟨hc, _⟩ := bcell hW
    exact ⟨by rw [hc _ _ (by simp), World.cell?_alloc_at _ _ _ _ (by simp)]; rfl, by rw [hc _ _ (by simp), World.cell?_alloc_at _ _ _ _ (by simp)]; rfl⟩
  have HW0 : Hid (Below w.heap.size w (w.alloc (.cells #[.int .i64 (vn : Int), .slice a n c] 27))) := (Below.refl _ w).alloc (Nat.le_refl _) _
  have HSZ := Lib.hid hw0s; clear hw0s
  go_enter Tryz.func18, Tryz.ntmps18
  go_wp2_with (go_at_call 47; refine (HHB.out _ HW0.out).mono ?_; rintro e w1 ⟨⟨v1, rfl, hown1⟩, hb1⟩; rw [HSZ.out] at hown1 hb1; have hs1 := hb1.size; rw [HSZ.out] at hs1; obtain ⟨a1, k1, c1, rfl, HK1', HO1⟩ := bopen (own_base hown1 (show w.heap.size + 1 ≤ _ by omega)); clear hown1)
  have HST : Hid (k1 = (headT vn n ++ (xss.take 0).flatMap clsT).length ∧ w1.ownsRow (w.heap.size + 1) 5 1 (.slice a1 k1 c1) k1 ((headT vn n ++ (xss.take 0).flatMap clsT).map (Value.int .u8))) := by
    rw [List.take_zero, List.flatMap_nil, List.append_nil]
    exact ⟨HK1'.out, HO1.out⟩
  clear HK1' HO1
  generalize w.alloc (.cells #[.int .i64 (vn : Int), .slice a n c] 27) = w0 at *
  go_loopw [3, 4] (fun bv i wr => ∃ (k m : Nat) (ab : Option Addr) (cb : Nat), k ≤ n ∧ i = .int .i64 k ∧ bv = .slice ab m cb ∧ Hid (m = (headT vn n ++ (xss.take k).flatMap clsT).length ∧ wr.ownsRow (w.heap.size + 1) 5 1 (.slice ab m cb) m ((headT vn n ++ (xss.take k).flatMap clsT).map (Value.int .u8))) ∧ Below (w.heap.size + 1) w0 wr ∧ w.heap.size + 1 ≤ wr.heap.size) (fun _ i _ => n - (intOf i).toNat)
  case atStart => exact ⟨0, _, _, _, Nat.zero_le _, rfl, rfl, HST.out, hb1, hs1⟩
  case round =>
    obtain ⟨k, m, ab, cb, hk, rfl, rfl, HRO, hzr, hsr⟩ := hrel
    clear HST hb1 hs1
    obtain ⟨hx0, hx1⟩ := HBOX.out _ hzr
    have hwr : Below w.heap.size w wr := HW0.out.trans (hzr.mono (by omega))
    by_cases hlt : k < n
    · obtain ⟨b, off, ha, hb, hc⟩ := HR.out.resolve_left (by omega)
      subst ha
      obtain ⟨v, g1, hv⟩ := hc k hlt
      clear hc
      have g1' := (hwr.cell (p := ⟨b, off + k, none⟩) hb).trans g1
      have HSS := Lib.hid (HSTEP.out k hlt)
      have HIK := Lib.hid (HI.out _ (HMEM.out k hlt))
      have HKE := Lib.hid (HK1.out (k + 1))
      rw [HSS.out, ← List.append_assoc] at HKE
      clear g1
      obtain ⟨av, cv, rfl, hrv⟩ := hv
      generalize hH : headT vn n ++ (xss.take k).flatMap clsT = hd at *
      generalize xss.getD k [] = ys at *
      have HLT := Lib.hid (refLits_any (w.heap.size + 1) m ab cb hd av cv ys wr (by exact HRO.out.2) hsr (fun W hW => hrv.keep (hwr.trans (hW.mono (by omega)))) HIK.out HKE.out (fun W hW => HTB.out _ _ (hwr.trans (hW.mono (by omega))) (by omega)))
      have HHD := Lib.hid hH; clear hH hrv
      generalize ys.length = ml at *
      go_wp2_with (go_at_call 48; refine HLT.out.mono ?_; rintro e w4 ⟨v4, rfl, hown4, hb4⟩; have hz4 := hzr.trans hb4; have hs4 : w.heap.size + 1 ≤ w4.heap.size := (by have := hb4.size; omega); obtain ⟨a4, k4, c4, rfl, HK4, HO4⟩ := bopen hown4; clear hown4)
      go_roundw
      case rel =>
        have he : headT vn n ++ (xss.take (k + 1)).flatMap clsT = hd ++ clsT ys := by rw [HSS.out, ← List.append_assoc, HHD.out]
        exact ⟨k + 1, k4, a4, c4, by omega, by go_num, rfl, by rw [he]; exact ⟨HK4.out, HO4.out⟩, hz4, hs4⟩
      case measure => simp [intOf]; omega
    · have hkn : k = n := by omega
      subst hkn
      have HFIN := Lib.hid (HTX.out (.slice ab m cb) wr m HRO.out.1 HRO.out.2)
      clear HTX HRO
      go_wp2_with fail
      go_ret
      exact ⟨⟨_, rfl, HFIN.out⟩, hwr⟩
end Go.Proofs.YtfoohdknjacenaaGreatDoor
