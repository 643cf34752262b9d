/- Contract of aag.Read: what a text's words tell ('readR'). Conditions: the slice reads as bytes, few of them; the errors lie as 'Sents' says. -/
import Derived.Test.YtfkodpglgeghlaaDoorCrc
import Derived.Test.YtfkodpglgeghlaaDoorWRow
import Derived.Test.YtfkodpglgeghlaaDoorWokP
namespace Go.Proofs.YtfkodpglgeghlaaDoor
open Go.RowKit

theorem headR_got {e : Int} {ws ws1 : List Wd} {hs : List (Int × Int)} (h : headR e ws = .got hs ws1) (hok : WOk ws) : hs.length = 5 ∧ (∀ j, 0 ≤ hn hs j ∧ hn hs j < 1000000000) ∧ WOk ws1 := by
  unfold headR at h
  cases ws with
  | nil => rw [nextR_nil] at h; cases h
  | cons x ws =>
    by_cases hx : x.2.2 = true
    · rw [nextR_ok hx] at h
      simp only at h
      split at h
      · obtain ⟨h1, h2⟩ := fiveR_bound 5 ws [] hs ws1 (fun j => by simp [hn]) hok.tail h
        exact ⟨by have := fiveR_len 5 ws [] hs ws1 h; simpa using this, h1, h2⟩
      · cases h
    · rw [nextR_bad hx] at h; cases h
theorem checkR_none {hs : List (Int × Int)} (h : checkR hs = none) : hn hs 1 ≤ 8000 ∧ hn hs 1 + hn hs 4 ≤ 8000 ∧ hn hs 3 ≤ 8000 ∧ hn hs 0 = hn hs 1 + hn hs 4 ∧ hn hs 2 = 0 := by
  unfold checkR at h
  split at h
  · cases h
  · split at h
    · cases h
    · split at h
      · cases h
      · split at h
        · cases h
        · split at h
          · cases h
          · omega
theorem circ_any {A : Nat → Addr} {p g : Nat} {e : Int} {ws : List Wd} {w : World} (h : RdM w p g e ws) (hS : SentsP A p w) (hok : WOk ws) :
    Calls Tryd.prog 40 #[.pointer (some ⟨p, 0, none⟩)] w (CircP A w p (readR e ws)) := by
  cases hh : headR e ws with
  | bad k => rw [show readR e ws = badC (false, k) by unfold readR; rw [hh]]; exact circ_head h hS hok (false, k) (.inl ⟨hh, rfl⟩)
  | got hs ws1 =>
    obtain ⟨_, hb, hok1⟩ := headR_got hh hok
    cases hck : checkR hs with
    | some f => rw [show readR e ws = badC f by unfold readR; rw [hh]; simp only [hck]]; exact circ_head h hS hok f (.inr ⟨hs, ws1, hh, hck⟩)
    | none =>
      rw [show readR e ws = contI e (hn hs 1).toNat (hn hs 0).toNat (hn hs 3).toNat (hn hs 4).toNat (hn hs 1).toNat 0 ws1 by unfold readR; rw [hh]; simp only [hck]]
      obtain ⟨c1, c2, c3, c4, c5⟩ := checkR_none hck
      have b0 := hb 0
      have b1 := hb 1
      have b3 := hb 3
      have b4 := hb 4
      exact circ_main h hS hok hs ws1 hh hck hok1 _ _ _ _ (by omega) (by omega) (by omega) (by omega) (by omega) (by omega) (by omega) (by omega)

/-- A fault's number, whether it has a place, the place. -/
def fcode : Option (Bool × Int) → Int
  | none => 0
  | some f => if f.1 = true then 102 else 101
def fpos : Option (Bool × Int) → Int
  | none => 0
  | some f => f.2
theorem OutF.err {A : Nat → Addr} {B : Nat} {w : World} {ev : Value} {f : Option (Bool × Int)} (h : OutF A B w ev f) (hS : Sents w A) : ErrAs w ev (fcode f) f.isSome (fpos f) := by
  cases f with
  | none => obtain rfl : ev = .nilIface := h; exact errAs_nil _
  | some f =>
    obtain ⟨l, k⟩ := f
    cases l with
    | true => exact AtB.err (i := 1) h hS (by omega)
    | false => exact AtB.err (i := 0) h hS (by omega)
theorem OutF.keep {A : Nat → Addr} {B : Nat} {w w' : World} {ev : Value} {f : Option (Bool × Int)} (h : OutF A B w ev f) (hb : Below w.heap.size w w') : OutF A B w' ev f := by
  cases f with
  | none => exact h
  | some f => exact AtB.keep h hb
theorem OutF.set3 {A : Nat → Addr} {B q : Nat} {W : World} {ev : Value} {f : Option (Bool × Int)} {x y z : Value} (h : OutF A B W ev f) (hq : q < B) : OutF A B (set3 W q x y z) ev f := by
  cases f with
  | none => exact h
  | some f => exact set3_at h hq
theorem OutF.mono {A : Nat → Addr} {B B' : Nat} {w : World} {ev : Value} {f : Option (Bool × Int)} (h : OutF A B w ev f) (hB : B' ≤ B) : OutF A B' w ev f := by
  cases f with
  | none => exact h
  | some f => exact AtB.mono h hB

def ReadP (A : Nat → Addr) (w : World) (R : Res) (r : Ending) (w' : World) : Prop :=
  (∃ u v ev, r = .returned (.tuple #[circV R.1.1 u v, ev]) ∧ PRow w' u R.1.2.1 ∧ Row w' v R.1.2.2 ∧ OutF A w.heap.size w' ev R.2) ∧ Below w.heap.size w w'

theorem wordsF_ok {xs : List Int} (hb : Bts xs) (hn : xs.length ≤ 4000) : WOk (wordsL false xs) ∧ (wordsL false xs).length ≤ 4000 := by
  have := splitL_ok false xs.length xs (Nat.le_refl _) (by omega) hb 0 true false
  exact ⟨this.1, by have := this.2; unfold wordsL; omega⟩
theorem res3r {W : World} {q : Nat} {n : Int} {u v ev : Value} {tmps : Array Value} (h : CB W q n u v) (h2 : tmps.getD 2 undef = .pointer (some ⟨q, 0, none⟩)) (h3 : tmps.getD 3 undef = ev) : (results Tryd.f21 tmps).run Tryd.prog W = .ok (.tuple #[circV n u v, ev]) W := by
  obtain ⟨c0, c1, c2, _, _⟩ := h
  rw [Array.getD_eq_getD_getElem?] at h2 h3
  simp [results, Tryd.results21, go_sem, circV, h2, h3, c0, c1, c2]
/-- The reader that Read makes. -/
theorem rdm_start {w : World} {u : Value} {ws : List Wd} (e : Int) (T : TypeId) (h : WRow w u ws) (hz : 0 < w.heap.size) : ∃ g, RdM (w.alloc (.cells #[u, .int .i64 e] T)) w.heap.size g e ws := by
  obtain ⟨a, c, rfl, h1, h2, h3⟩ := h
  unfold maxLen at h2
  have hb := (Below.refl _ w).alloc (Nat.le_refl _) (.cells #[.slice a ws.length c, .int .i64 e] T)
  have c0 : (w.alloc (.cells #[.slice a ws.length c, .int .i64 e] T)).cell? ⟨w.heap.size, 0, none⟩ = some (.slice a ws.length c) := by rw [World.cell?_alloc_at _ _ _ _ (by simp)]; rfl
  have c1 : (w.alloc (.cells #[.slice a ws.length c, .int .i64 e] T)).cell? ⟨w.heap.size, 1, none⟩ = some (.int .i64 e) := by rw [World.cell?_alloc_at _ _ _ _ (by simp)]; rfl
  have cf : ∀ o, (w.alloc (.cells #[.slice a ws.length c, .int .i64 e] T)).frozen? ⟨w.heap.size, o, none⟩ = false := fun o => World.frozen?_alloc_at _ _ _ _ (by simp)
  rcases h3 with h3 | ⟨g, rfl, hw⟩
  · exact ⟨0, ⟨a, c, c0, h1, by omega, .inl h3⟩, c1, cf, by simp, by simp, by omega⟩
  · have hg := hw.sq
    have hw2 := hw.keep hb
    exact ⟨g, ⟨_, c, c0, h1, by omega, .inr ⟨0, rfl, hw2.sq, fun i hi => by rw [Nat.zero_add]; exact hw2.text i hi, fun i hi => by rw [Nat.zero_add]; exact hw2.pos i hi, fun i hi => by rw [Nat.zero_add]; exact hw2.fst i hi⟩⟩, c1, cf, by simp, by simp; omega, by omega⟩

set_option maxHeartbeats 4000000 in
theorem readA_any (A : Nat → Addr) (v : Value) (xs : List Int) (w : World) (hS : Sents w A) (hv : RowG (Value.int .u8) 0 w v xs) (hb : Bts xs) (hn : xs.length ≤ 4000) :
    Calls Tryd.prog 21 #[v] w (ReadP A w (readR xs.length (wordsL false xs))) := by
  obtain ⟨hok, hwn⟩ := wordsF_ok hb hn
  have HBA := Lib.hid ((Below.refl w.heap.size w).alloc (Nat.le_refl _) circ0)
  have HC0 := Lib.hid (CB.start w 0 (.slice none 0 0) (.slice none 0 0) 27)
  have HSP := Lib.hid (split_row v xs false _ (hv.keep HBA.out) hb (by omega))
  have HS := Lib.hid (fun W (hW : Below w.heap.size w W) => hS.keep hW)
  have hz0 : 0 < w.heap.size := by have := World.block_lt_of_cell? w _ hS.c0; omega
  obtain ⟨a, cap, rfl, hcl, hcm, _⟩ := hv
  unfold maxLen at hcm
  have HOK := Lib.hid hok
  clear hS hb hok hwn
  generalize wordsL false xs = ws at *
  generalize xs.length = n at *
  have hnl : decide ((1048576 : Int) < n) = false := by simp; omega
  unfold circ0 at *
  go_enter Tryd.func21, Tryd.ntmps21
  go_wp2_with fail
  refine HSP.out.mono ?_
  rintro e1 w1 ⟨⟨u, rfl, hr⟩, hb1⟩
  have hs1 := hb1.size
  simp at hs1
  obtain ⟨g, hrd⟩ := rdm_start (n : Int) 69 hr (by omega)
  have hbw := HBA.out.trans (hb1.mono (by simp))
  have hbw2 := hbw.alloc (by omega) (.cells #[u, .int .i64 (n : Int)] 69)
  have HCI := Lib.hid (circ_any hrd (SentsP.of (HS.out w1 hbw) ((Below.refl _ _).alloc (Nat.le_refl _) _) (Nat.le_refl _)) HOK.out)
  have HQ := Lib.hid ((HC0.out.chg (S := []) (Chg.of_below hb1) (by simp)).chg (S := []) (Chg.of_below ((Below.refl _ w1).alloc (Nat.le_refl _) (.cells #[u, .int .i64 (n : Int)] 69))) (by simp))
  have HBW := Lib.hid hbw2
  clear hrd hbw hbw2 hb1
  obtain ⟨au, cu, rfl, _, _, _⟩ := hr
  have HSZ : Hid ((w1.alloc (.cells #[.slice au ws.length cu, .int .i64 (n : Int)] 69)).heap.size = w1.heap.size + 1) := by unfold Hid; simp
  generalize readR (n : Int) ws = R at *
  go_wp2_with fail
  refine HCI.out.mono ?_
  rintro e3 w3 ⟨u3, v3, ev, rfl, hu3, hv3, hO, hch⟩
  have hs3 := hch.size
  rw [HSZ.out] at hs3
  rw [HSZ.out] at hu3 hv3 hO
  have hq3 := HQ.out.chg hch (by simp; omega)
  obtain ⟨a3, k3, rfl, _, _⟩ := row_shape hu3
  obtain ⟨a4, k4, rfl, _, _⟩ := own_shape hv3
  have HQ3 := Lib.hid hq3
  have HP : Hid (ReadP A w R (.returned (.tuple #[circV R.1.1 (.slice a3 R.1.2.1.length k3) (.slice a4 R.1.2.2.length k4), ev])) (set3 w3 w.heap.size (.int .i64 R.1.1) (.slice a3 R.1.2.1.length k3) (.slice a4 R.1.2.2.length k4))) := by
    have hb3 : Below w.heap.size w w3 := hch.below HBW.out (by rw [HSZ.out]; omega) (by intro i hi; simp at hi; omega)
    refine ⟨⟨_, _, ev, rfl, own_prow (set3_own hu3 (by omega)), own_row (set3_own hv3 (by omega)), (hO.set3 (by omega)).mono (by omega)⟩, ?_⟩
    exact ((hb3.setCell (Nat.le_refl _) _).setCell (Nat.le_refl _) _).setCell (Nat.le_refl _) _
  obtain ⟨c0, c1, c2, cf, cs⟩ := hq3
  clear hu3 hv3 hO hch
  unfold circV
  go_wp2_with fail
  exact bodyPost_ret (v := .tuple #[circV R.1.1 (.slice a3 R.1.2.1.length k3) (.slice a4 R.1.2.2.length k4), ev]) (res3r (HQ3.out.set3 R.1.1 (.slice a3 R.1.2.1.length k3) (.slice a4 R.1.2.2.length k4)) rfl rfl) rfl HP.out
end Go.Proofs.YtfkodpglgeghlaaDoor
