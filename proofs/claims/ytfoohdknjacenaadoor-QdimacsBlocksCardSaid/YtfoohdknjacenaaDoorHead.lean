/- Contracts of dimacs.headWord, headNumber, head and Head. Conditions: the slice reads as words, each of some bytes; the errors lie as 'Sents8' says. -/
import Derived.Test.YtfoohdknjacenaaDoorTold
namespace Go.Proofs.YtfoohdknjacenaaDoor
open Go.RowKit

/-- What headWord tells. -/
def headWordL (ws : List Wd) (k : Nat) : Flt := if k < ws.length then (if fst ws k = decide (k = 0) then .ok else .text k) else .text k
theorem wrow_some {w : World} {v : Value} {ws : List Wd} (h : WRow w v ws) (h0 : ws.length ≠ 0) : ∃ g cap, v = .slice (some ⟨g, 0, none⟩) ws.length cap ∧ ws.length ≤ cap ∧ cap ≤ 9223372036854775807 ∧ WCells w g ws := by
  obtain ⟨a, c, rfl, h1, h2, h3⟩ := h
  obtain ⟨g, rfl, h4⟩ := h3.resolve_left h0
  unfold maxLen at h2
  exact ⟨g, c, rfl, h1, by omega, h4⟩

set_option maxHeartbeats 1000000 in
theorem headWord_any (A : Nat → Addr) (v : Value) (ws : List Wd) (k : Nat) (w : World) (hS : Sents8 w A) (hv : WRow w v ws) (hn : ws.length ≤ 4000) (hk4 : k < 4) :
    Calls Tryd.prog 44 #[v, .int .i64 k] w fun r w' => (∃ ev, r = .returned ev ∧ ErrV A w' ws.length ev (headWordL ws k)) ∧ Below w.heap.size w w' := by
  have c7 := hS.c7
  have z7 : 2 < w.heap.size := World.block_lt_of_cell? w _ c7
  have c0 := hS.c0
  have z0 : 1 < w.heap.size := World.block_lt_of_cell? w _ c0
  by_cases hk : k < ws.length
  · obtain ⟨g, cap, rfl, hcl, hcm, hw⟩ := wrow_some hv (by omega)
    have hf := hw.fst k hk
    have HT := Lib.hid (fun W => at_any A k 0 W)
    clear hS hv hw
    have e1 : headWordL ws k = if fst ws k = decide (k = 0) then .ok else .text k := by unfold headWordL; rw [if_pos hk]
    have he : ∀ W ev, (fst ws k = decide (k = 0) → ev = .nilIface) → (fst ws k ≠ decide (k = 0) → AtV A W ev k 0) → ErrV A W ws.length ev (headWordL ws k) := fun W ev h1 h2 => by
      rw [e1]
      split
      · rename_i h; exact h1 h
      · rename_i h; exact .inl ⟨hk, h2 h⟩
    have HE := Lib.hid he; clear he e1
    have hfe : (ws.getD k wd0).2.2 = fst ws k := rfl
    rw [hfe] at hf
    clear hfe
    generalize fst ws k = f at *
    generalize ws.length = n at *
    have hkc : (k : Int) < n := by omega
    have hge : decide ((n : Int) ≤ (k : Int)) = false := by simp; omega
    by_cases hk0 : k = 0
    · subst hk0
      cases f with
      | true =>
        go_enter Tryd.func44, Tryd.ntmps44
        go_wp2_with fail
        go_ret
        exact ⟨⟨_, rfl, HE.out _ _ (fun _ => rfl) (fun h => absurd rfl h)⟩, Below.refl _ _⟩
      | false =>
        go_enter Tryd.func44, Tryd.ntmps44
        go_wp2_with (go_at_call 45; refine (HT.out _).mono ?_; rintro e w3 ⟨⟨ov, rfl, hat⟩, hb3⟩)
        go_ret
        exact ⟨⟨_, rfl, HE.out _ _ (fun h => (by cases h)) (fun _ => hat)⟩, hb3⟩
    · have hkb : ((k : Int) == 0) = false := by simp; omega
      have hkd : decide (k = 0) = false := by simp [hk0]
      rw [hkd] at HE
      cases f with
      | false =>
        go_enter Tryd.func44, Tryd.ntmps44
        go_wp2_with fail
        go_ret
        exact ⟨⟨_, rfl, HE.out _ _ (fun _ => rfl) (fun h => absurd rfl h)⟩, Below.refl _ _⟩
      | true =>
        go_enter Tryd.func44, Tryd.ntmps44
        go_wp2_with (go_at_call 45; refine (HT.out _).mono ?_; rintro e w3 ⟨⟨ov, rfl, hat⟩, hb3⟩)
        go_ret
        exact ⟨⟨_, rfl, HE.out _ _ (fun h => (by cases h)) (fun _ => hat)⟩, hb3⟩
  · obtain ⟨a, cap, rfl, hcl, hcm, _⟩ := hv
    have e1 : headWordL ws k = .text k := by unfold headWordL; rw [if_neg hk]
    rw [e1]
    have HK := Lib.hid hk
    have hge : decide ((ws.length : Int) ≤ (k : Int)) = true := by simp; omega
    clear e1 hS hcm
    generalize ws.length = n at *
    go_enter Tryd.func44, Tryd.ntmps44
    go_wp2_with fail
    go_ret
    exact ⟨⟨_, rfl, .inr ⟨by have := HK.out; omega, rfl⟩⟩, Below.refl _ _⟩

theorem str_first {xs : List Int} (hb : Bts xs) (h : xs ≠ []) : (((strOfNums xs).extract 0 1).toList == [45]) = decide (xs.head? = some 45) := by
  rw [str_extract, str_toList]
  cases xs with
  | nil => exact absurd rfl h
  | cons x t =>
    have := hb x (by simp)
    by_cases e : x = 45
    · subst e; rfl
    · have hx : UInt8.ofNat x.toNat ≠ 45 := fun h' => by
        have h1 := u8_back this.1 this.2
        rw [h'] at h1
        exact e (by rw [← h1]; rfl)
      simp [e, hx]

set_option maxHeartbeats 1000000 in
theorem ihasPrefix_any (xs : List Int) (w : World) (hb : Bts xs) (h : xs ≠ []) (hn : xs.length ≤ 4000000) :
    Calls Tryd.prog 68 #[.string (strOfNums xs), .string ⟨#[45]⟩] w fun r w' => r = .returned (.bool (decide (xs.head? = some 45))) ∧ w = w' := by
  have hs : (strOfNums xs).size = xs.length := strOfNums_size xs
  have hpos : 0 < xs.length := List.length_pos_iff.2 h
  have hf := str_first hb h
  generalize decide (xs.head? = some 45) = r at *
  generalize strOfNums xs = s at *
  generalize xs.length = n at *
  have hge : decide ((1 : Int) ≤ n) = true := by simp; omega
  clear hb h
  go_enter Tryd.func68, Tryd.ntmps68
  go_wp2_with fail
  go_ret
  exact ⟨rfl, rfl⟩

set_option maxHeartbeats 1000000 in
theorem hasPrefix_any (xs : List Int) (w : World) (hb : Bts xs) (h : xs ≠ []) (hn : xs.length ≤ 4000000) :
    Calls Tryd.prog 58 #[.string (strOfNums xs), .string ⟨#[45]⟩] w fun r w' => r = .returned (.bool (decide (xs.head? = some 45))) ∧ w = w' := by
  have HI := Lib.hid (fun W => ihasPrefix_any xs W hb h hn)
  clear hb h hn
  generalize decide (xs.head? = some 45) = r at *
  generalize strOfNums xs = s at *
  go_enter Tryd.func58, Tryd.ntmps58
  go_wp2_with (go_at_call 68; refine (HI.out _).mono ?_; rintro e w3 ⟨rfl, rfl⟩)
  go_ret
  exact ⟨rfl, rfl⟩
def cntOut (ws : List Wd) (k : Nat) (most : Int) : Int × Flt := match cntL ws k with
  | none => (0, .text k)
  | some n => if most < n then (0, .lim k) else (n, .ok)

set_option maxHeartbeats 2000000 in
theorem headNumber_any (A : Nat → Addr) (v : Value) (ws : List Wd) (k : Nat) (most : Int) (w : World) (hS : Sents8 w A) (hv : WRow w v ws) (hok : WOk ws) (hn : ws.length ≤ 4000) (hk4 : k < 4) (hk0 : k ≠ 0) :
    Calls Tryd.prog 46 #[v, .int .i64 k, .int .i64 most] w fun r w' => (∃ ev, r = .returned (.tuple #[.int .i64 (cntOut ws k most).1, ev]) ∧ ErrV A w' ws.length ev (cntOut ws k most).2) ∧ Below w.heap.size w w' := by
  have HW := Lib.hid (headWord_any A v ws k w hS hv hn hk4)
  by_cases hk : k < ws.length ∧ fst ws k = false
  · obtain ⟨hk, hf⟩ := hk
    have e1 : headWordL ws k = .ok := by unfold headWordL; rw [if_pos hk, hf, if_pos (by simp [hk0])]
    rw [e1] at HW
    have hc : cntL ws k = if (txt ws k).head? ≠ some 45 then numL (txt ws k) else none := by
      unfold cntL
      by_cases h : (txt ws k).head? ≠ some 45
      · rw [if_pos ⟨hk, hf, h⟩, if_pos h]
      · rw [if_neg (fun h' => h h'.2.2), if_neg h]
    obtain ⟨g, cap, rfl, hcl, hcm, hw⟩ := wrow_some hv (by omega)
    obtain ⟨x1, x2, x3⟩ := hok.at hk
    have HN := Lib.hid (fun W => num_any (txt ws k) W x2 x3)
    have HP := Lib.hid (fun W => hasPrefix_any (txt ws k) W x2 x1 x3)
    have ht : w.cell? ⟨g, k * 3, none⟩ = some (.string (strOfNums (txt ws k))) := hw.text k hk
    have hg := hw.sq
    have HSS := Lib.hid (fun W (hW : Below w.heap.size w W) => hS.keep hW)
    have c0 := hS.c0
    have z0 : 1 < w.heap.size := World.block_lt_of_cell? w _ c0
    have c1 := hS.c1
    have z1 : 0 < w.heap.size := World.block_lt_of_cell? w _ c1
    have HT0 := Lib.hid (fun W => at_any A k 0 W)
    have HT1 := Lib.hid (fun W => at_any A k 1 W)
    have HNB := Lib.hid (fun n (h : numL (txt ws k) = some n) => numL_bd h)
    clear hS hv hw x1 x2 x3 e1 hf hok
    have hkc : (k : Int) < ws.length := by omega
    have HKL := Lib.hid hk
    have HKK := Lib.hid hc; clear hc
    unfold NumPost at HN
    have hco : ∀ W ev, (cntL ws k = none → AtV A W ev k 0) → (∀ n, cntL ws k = some n → most < n → AtV A W ev k 1) → (∀ n, cntL ws k = some n → ¬ most < n → ev = .nilIface) → ErrV A W ws.length ev (cntOut ws k most).2 := fun W ev h1 h2 h3 => by
      unfold cntOut
      cases hc : cntL ws k with
      | none => exact .inl ⟨hk, h1 hc⟩
      | some n =>
        by_cases h : most < n
        · simp only [h, if_true]; exact ⟨hk, h2 n hc h⟩
        · simp only [h, if_false]; exact h3 n hc h
    have HCO := Lib.hid hco; clear hco
    have HC1 := Lib.hid (show (cntOut ws k most).1 = (match cntL ws k with | none => 0 | some n => if most < n then 0 else n) by
      unfold cntOut
      cases cntL ws k with
      | none => rfl
      | some n => by_cases h : most < n <;> simp [h])
    have HNN := Lib.hid (rfl : ws.length = ws.length)
    generalize (cntOut ws k most).1 = o1 at *
    generalize (cntOut ws k most).2 = o2 at *
    generalize cntL ws k = oc at *
    generalize txt ws k = xs at *
    generalize ws.length = n at *
    have HTX : Hid (∀ W, Below w.heap.size w W → W.cell? ⟨g, k * 3, none⟩ = some (.string (strOfNums xs))) := fun W hW => (hW.cell (p := ⟨g, k * 3, none⟩) hg).trans ht
    have HC00 : Hid (∀ W, Below w.heap.size w W → W.cell? ⟨1, 0, none⟩ = some (.iface 155 (.pointer (some (A 0))))) := fun W hW => (hW.cell (p := ⟨1, 0, none⟩) z0).trans c0
    have HC01 : Hid (∀ W, Below w.heap.size w W → W.cell? ⟨0, 0, none⟩ = some (.iface 155 (.pointer (some (A 1))))) := fun W hW => (hW.cell (p := ⟨0, 0, none⟩) z1).trans c1
    clear ht c0 c1 hk
    generalize strOfNums xs = s at *
    generalize A 0 = a0 at *
    generalize A 1 = a1 at *
    cases hnum : numL xs with
    | none =>
      rw [hnum] at HN HKK
      obtain rfl : oc = none := by rw [HKK.out]; split <;> rfl
      obtain rfl : o1 = 0 := HC1.out
      clear hnum HP HNB HT1 HC1
      go_enter Tryd.func46, Tryd.ntmps46
      go_wp2_with (first
        | (go_at_call 44; refine HW.out.mono ?_; rintro e w1 ⟨⟨ev, rfl, hE⟩, hb1⟩; obtain rfl : ev = .nilIface := hE; have g1 := HTX.out _ hb1)
        | (go_at_call 49; refine (HN.out _).mono ?_; rintro e w2 ⟨rfl, hb2⟩; have hbw := hb1.trans (hb2.mono hb1.size); have g2 := HTX.out _ hbw; have g3 := HC00.out _ hbw)
        | (go_at_call 45; refine (HT0.out _).mono ?_; rintro e w3 ⟨⟨ov, rfl, hat⟩, hb3⟩))
      go_ret2
      exact ⟨⟨_, rfl, HCO.out _ _ (fun _ => hat) (fun _ h => (by cases h)) (fun _ h => (by cases h))⟩, hbw.trans (hb3.mono hbw.size)⟩
    | some m =>
      rw [hnum] at HN HKK
      have hmb := HNB.out m hnum
      cases hsg : decide (xs.head? = some 45) with
      | true =>
        rw [hsg] at HP
        have hsg' : xs.head? = some 45 := by simpa using hsg
        obtain rfl : oc = none := by rw [HKK.out, if_neg (fun h => h hsg')]
        obtain rfl : o1 = 0 := HC1.out
        clear hnum HNB HT1 HC1 hsg hsg'
        go_enter Tryd.func46, Tryd.ntmps46
        go_wp2_with (first
          | (go_at_call 44; refine HW.out.mono ?_; rintro e w1 ⟨⟨ev, rfl, hE⟩, hb1⟩; obtain rfl : ev = .nilIface := hE; have g1 := HTX.out _ hb1)
          | (go_at_call 49; refine (HN.out _).mono ?_; rintro e w2 ⟨rfl, hb2⟩; have hbw := hb1.trans (hb2.mono hb1.size); have g2 := HTX.out _ hbw; have g3 := HC00.out _ hbw)
          | (go_at_call 58; refine (HP.out _).mono ?_; rintro e w' ⟨rfl, rfl⟩)
          | (go_at_call 45; refine (HT0.out _).mono ?_; rintro e w3 ⟨⟨ov, rfl, hat⟩, hb3⟩))
        go_ret2
        exact ⟨⟨_, rfl, HCO.out _ _ (fun _ => hat) (fun _ h => (by cases h)) (fun _ h => (by cases h))⟩, hbw.trans (hb3.mono hbw.size)⟩
      | false =>
        rw [hsg] at HP
        have hsg' : xs.head? ≠ some 45 := by simpa using hsg
        obtain rfl : oc = some m := by rw [HKK.out, if_pos hsg']
        obtain rfl : o1 = if most < m then 0 else m := HC1.out
        clear hnum HNB HC1 hsg hsg'
        by_cases hgt : most < m
        · rw [if_pos hgt]
          go_enter Tryd.func46, Tryd.ntmps46
          go_wp2_with (first
            | (go_at_call 44; refine HW.out.mono ?_; rintro e w1 ⟨⟨ev, rfl, hE⟩, hb1⟩; obtain rfl : ev = .nilIface := hE; have g1 := HTX.out _ hb1)
            | (go_at_call 49; refine (HN.out _).mono ?_; rintro e w2 ⟨rfl, hb2⟩; have hbw := hb1.trans (hb2.mono hb1.size); have g2 := HTX.out _ hbw; have g3 := HC01.out _ hbw)
            | (go_at_call 58; refine (HP.out _).mono ?_; rintro e w' ⟨rfl, rfl⟩)
            | (go_at_call 45; refine (HT1.out _).mono ?_; rintro e w3 ⟨⟨ov, rfl, hat⟩, hb3⟩))
          go_ret2
          exact ⟨⟨_, rfl, HCO.out _ _ (fun h => (by cases h)) (fun _ _ _ => hat) (fun n h h' => absurd hgt (by have := Option.some.inj h; omega))⟩, hbw.trans (hb3.mono hbw.size)⟩
        · rw [if_neg hgt]
          have hgtb : decide (most < m) = false := by simpa using hgt
          have HGT := Lib.hid hgt; clear hgt
          go_enter Tryd.func46, Tryd.ntmps46
          go_wp2_with (first
            | (go_at_call 44; refine HW.out.mono ?_; rintro e w1 ⟨⟨ev, rfl, hE⟩, hb1⟩; obtain rfl : ev = .nilIface := hE; have g1 := HTX.out _ hb1)
            | (go_at_call 49; refine (HN.out _).mono ?_; rintro e w2 ⟨rfl, hb2⟩; have hbw := hb1.trans (hb2.mono hb1.size); have g2 := HTX.out _ hbw)
            | (go_at_call 58; refine (HP.out _).mono ?_; rintro e w' ⟨rfl, rfl⟩))
          go_ret2
          exact ⟨⟨_, rfl, HCO.out _ _ (fun h => (by cases h)) (fun n h h' => by have := Option.some.inj h; have h4 := HGT.out; omega) (fun _ _ _ => rfl)⟩, hbw⟩
  · have e1 : headWordL ws k = .text k := by
      unfold headWordL
      by_cases h : k < ws.length
      · rw [if_pos h, if_neg (by have : ¬ fst ws k = false := fun h' => hk ⟨h, h'⟩; simp [hk0]; simpa using this)]
      · rw [if_neg h]
    rw [e1] at HW
    have e2 : cntOut ws k most = (0, .text k) := by
      unfold cntOut cntL
      rw [if_neg (fun h => hk ⟨h.1, h.2.1⟩)]
    rw [e2]
    clear e1 e2 hS hk
    obtain ⟨a, cap, rfl, hcl, hcm, _⟩ := hv
    go_enter Tryd.func46, Tryd.ntmps46
    go_wp2_with (go_at_call 44; refine HW.out.mono ?_; rintro e w1 ⟨⟨ev, rfl, hE⟩, hb1⟩; obtain ⟨t, u, rfl⟩ : ∃ t u, ev = .iface t u := hE.elim (fun ⟨_, b, h, _⟩ => ⟨_, _, h⟩) (fun ⟨_, h⟩ => ⟨_, _, h⟩))
    go_ret2
    exact ⟨⟨_, rfl, hE⟩, hb1⟩

end Go.Proofs.YtfoohdknjacenaaDoor
