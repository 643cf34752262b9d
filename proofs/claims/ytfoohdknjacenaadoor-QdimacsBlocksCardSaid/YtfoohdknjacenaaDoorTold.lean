/- Contracts of dimacs.at and dimacs.told: an error around a word's number is told around its place. Conditions: the errors lie as 'Sents8' says. -/
import Derived.Test.YtfoohdknjacenaaDoorErrAs
import Derived.Test.YtfoohdknjacenaaDoorHeadP
import Derived.BigQuiet
namespace Go.Proofs.YtfoohdknjacenaaDoor
open Go.RowKit

/-- errors.As of an *api.At at the caller's own variable. -/
theorem as_at (e : Addr) (B : Nat) (old : Value) (w : World) (hg : w.cell? ⟨3, 0, none⟩ = some (.iface 127 (.agg #[.pointer (some ⟨13, 37, none⟩)]))) (ht0 : w.cell? ⟨B, 0, none⟩ = some old) (hf0 : w.frozen? ⟨B, 0, none⟩ = false) :
    Calls Tryd.prog 48 #[.iface 68 (.pointer (some e)), .iface 99 (.pointer (some ⟨B, 0, none⟩))] w fun ev w' => ev = .returned (.bool true) ∧ Below B w w' ∧ w'.cell? ⟨B, 0, none⟩ = some (.pointer (some e)) := by
  have hB : B < w.heap.size := World.block_lt_of_cell? w _ ht0
  refine (as_hit e ⟨B, 0, none⟩ old w hg ht0 hf0).mono ?_
  rintro ev w' ⟨rfl, rfl⟩
  refine ⟨rfl, (((((Below.refl B w).alloc (by omega) _).alloc (by simp; omega) _).alloc (by simp; omega) _).alloc (by simp; omega) _).setCell (Nat.le_refl _) _, ?_⟩
  refine World.cell?_setCell_same _ _ _ (u := old) ?_
  rw [World.cell?_alloc_lt _ _ ⟨B, 0, none⟩ (by simp; omega), World.cell?_alloc_lt _ _ ⟨B, 0, none⟩ (by simp; omega), World.cell?_alloc_lt _ _ ⟨B, 0, none⟩ (by simp; omega), World.cell?_alloc_lt _ _ ⟨B, 0, none⟩ hB]
  exact ht0

/-- Words in memory, from an offset on: cut slices too. -/
structure WCellsO (w : World) (g off : Nat) (ws : List Wd) : Prop where
  sq : g < w.heap.size
  text : ∀ i, i < ws.length → w.cell? ⟨g, off + i * 3, none⟩ = some (.string (strOfNums (ws.getD i wd0).1))
  pos : ∀ i, i < ws.length → w.cell? ⟨g, off + i * 3 + 1, none⟩ = some (.int .i64 (ws.getD i wd0).2.1)
  fst : ∀ i, i < ws.length → w.cell? ⟨g, off + i * 3 + 2, none⟩ = some (.bool (ws.getD i wd0).2.2)
theorem WCellsO.keep {w w' : World} {g off : Nat} {ws : List Wd} (h : WCellsO w g off ws) (hb : Below w.heap.size w w') : WCellsO w' g off ws where
  sq := Nat.lt_of_lt_of_le h.sq hb.size
  text := fun i hi => (hb.cell (p := ⟨g, off + i * 3, none⟩) h.sq).trans (h.text i hi)
  pos := fun i hi => (hb.cell (p := ⟨g, off + i * 3 + 1, none⟩) h.sq).trans (h.pos i hi)
  fst := fun i hi => (hb.cell (p := ⟨g, off + i * 3 + 2, none⟩) h.sq).trans (h.fst i hi)
def WRowO (w : World) (v : Value) (ws : List Wd) : Prop := ∃ a c, v = .slice a ws.length c ∧ ws.length ≤ c ∧ c ≤ maxLen ∧ (ws.length = 0 ∨ ∃ g off, a = some ⟨g, off, none⟩ ∧ WCellsO w g off ws)
theorem WRowO.keep {w w' : World} {v : Value} {ws : List Wd} (h : WRowO w v ws) (hb : Below w.heap.size w w') : WRowO w' v ws := by
  obtain ⟨a, c, e, h1, h2, h3⟩ := h
  refine ⟨a, c, e, h1, h2, ?_⟩
  rcases h3 with h3 | ⟨g, off, e, h3⟩
  · exact .inl h3
  · exact .inr ⟨g, off, e, h3.keep hb⟩
theorem WRow.o {w : World} {v : Value} {ws : List Wd} (h : WRow w v ws) : WRowO w v ws := by
  obtain ⟨a, c, e, h1, h2, h3⟩ := h
  refine ⟨a, c, e, h1, h2, ?_⟩
  rcases h3 with h3 | ⟨g, e, h3⟩
  · exact .inl h3
  · exact .inr ⟨g, 0, e, h3.sq, fun i hi => by rw [Nat.zero_add]; exact h3.text i hi, fun i hi => by rw [Nat.zero_add]; exact h3.pos i hi, fun i hi => by rw [Nat.zero_add]; exact h3.fst i hi⟩
theorem WCells.cut {w : World} {g : Nat} {ws : List Wd} (h : WCells w g ws) (k : Nat) : WCellsO w g (k * 3) (ws.drop k) := by
  have hg : ∀ i, (ws.drop k).getD i wd0 = ws.getD (k + i) wd0 := fun i => by simp [List.getD]
  refine ⟨h.sq, fun i hi => ?_, fun i hi => ?_, fun i hi => ?_⟩
  · rw [List.length_drop] at hi; rw [hg, show k * 3 + i * 3 = (k + i) * 3 by omega]; exact h.text _ (by omega)
  · rw [List.length_drop] at hi; rw [hg, show k * 3 + i * 3 + 1 = (k + i) * 3 + 1 by omega]; exact h.pos _ (by omega)
  · rw [List.length_drop] at hi; rw [hg, show k * 3 + i * 3 + 2 = (k + i) * 3 + 2 by omega]; exact h.fst _ (by omega)

/-- The value is an *api.At around the i-th error, with this place. -/
def AtV (A : Nat → Addr) (w : World) (ev : Value) (k : Int) (i : Nat) : Prop := ∃ b, ev = .iface 68 (.pointer (some ⟨b, 0, none⟩)) ∧ w.cell? ⟨b, 0, none⟩ = some (.int .i64 k) ∧ w.cell? ⟨b, 1, none⟩ = some (sentV A i)
theorem AtV.keep {A : Nat → Addr} {w w' : World} {ev : Value} {k : Int} {i : Nat} (h : AtV A w ev k i) (hb : Below w.heap.size w w') : AtV A w' ev k i := by
  obtain ⟨b, e, h0, h1⟩ := h
  have hlt := World.block_lt_of_cell? w _ h0
  exact ⟨b, e, (hb.cell (p := ⟨b, 0, none⟩) hlt).trans h0, (hb.cell (p := ⟨b, 1, none⟩) hlt).trans h1⟩
/-- The error before it is told: around the number of a word. -/
def ErrV (A : Nat → Addr) (w : World) (n : Nat) (ev : Value) : Flt → Prop
  | .ok => ev = .nilIface
  | .text k => (k < n ∧ AtV A w ev k 0) ∨ (n ≤ k ∧ ev = sentV A 7)
  | .lim k => k < n ∧ AtV A w ev k 1
theorem ErrV.keep {A : Nat → Addr} {w w' : World} {n : Nat} {ev : Value} {f : Flt} (h : ErrV A w n ev f) (hb : Below w.heap.size w w') : ErrV A w' n ev f := by
  cases f with
  | ok => exact h
  | text k => exact h.imp (fun ⟨a, b⟩ => ⟨a, b.keep hb⟩) id
  | lim k => exact ⟨h.1, h.2.keep hb⟩
/-- The same, made since the block B. -/
def AtB (A : Nat → Addr) (B : Nat) (w : World) (ev : Value) (k : Int) (i : Nat) : Prop := ∃ b, B ≤ b ∧ ev = .iface 68 (.pointer (some ⟨b, 0, none⟩)) ∧ w.cell? ⟨b, 0, none⟩ = some (.int .i64 k) ∧ w.cell? ⟨b, 1, none⟩ = some (sentV A i)
theorem AtB.v {A : Nat → Addr} {B : Nat} {w : World} {ev : Value} {k : Int} {i : Nat} (h : AtB A B w ev k i) : AtV A w ev k i := by
  obtain ⟨b, _, h⟩ := h
  exact ⟨b, h⟩
theorem AtB.keep {A : Nat → Addr} {B : Nat} {w w' : World} {ev : Value} {k : Int} {i : Nat} (h : AtB A B w ev k i) (hb : Below w.heap.size w w') : AtB A B w' ev k i := by
  obtain ⟨b, hB, e, h0, h1⟩ := h
  have hlt := World.block_lt_of_cell? w _ h0
  exact ⟨b, hB, e, (hb.cell (p := ⟨b, 0, none⟩) hlt).trans h0, (hb.cell (p := ⟨b, 1, none⟩) hlt).trans h1⟩
theorem AtB.set {A : Nat → Addr} {B : Nat} {w : World} {ev : Value} {k : Int} {i : Nat} (h : AtB A B w ev k i) (q o : Nat) (v : Value) (hq : q < B) : AtB A B (w.setCell ⟨q, o, none⟩ v) ev k i := by
  obtain ⟨b, hB, e, h0, h1⟩ := h
  refine ⟨b, hB, e, ?_, ?_⟩
  · rw [World.cell?_setCell_other _ _ _ _ (by simp <;> omega)]; exact h0
  · rw [World.cell?_setCell_other _ _ _ _ (by simp <;> omega)]; exact h1
theorem AtB.mono {A : Nat → Addr} {B B' : Nat} {w : World} {ev : Value} {k : Int} {i : Nat} (h : AtB A B w ev k i) (hB : B' ≤ B) : AtB A B' w ev k i := by
  obtain ⟨b, hb, h⟩ := h
  exact ⟨b, by omega, h⟩
/-- The error as it is told. -/
def OutV (A : Nat → Addr) (B : Nat) (w : World) (ws : List Wd) (e : Int) (ov : Value) : Flt → Prop
  | .ok => ov = .nilIface
  | .text k => AtB A B w ov (posL ws k e) 0
  | .lim k => AtB A B w ov (posL ws k e) 1
theorem OutV.keep {A : Nat → Addr} {B : Nat} {w w' : World} {ws : List Wd} {e : Int} {ov : Value} {f : Flt} (h : OutV A B w ws e ov f) (hb : Below w.heap.size w w') : OutV A B w' ws e ov f := by
  cases f with
  | ok => exact h
  | text k => exact AtB.keep h hb
  | lim k => exact AtB.keep h hb
theorem OutV.set {A : Nat → Addr} {B : Nat} {w : World} {ws : List Wd} {e : Int} {ov : Value} {f : Flt} (h : OutV A B w ws e ov f) (q o : Nat) (v : Value) (hq : q < B) : OutV A B (w.setCell ⟨q, o, none⟩ v) ws e ov f := by
  cases f with
  | ok => exact h
  | text k => exact AtB.set h q o v hq
  | lim k => exact AtB.set h q o v hq
theorem OutV.mono {A : Nat → Addr} {B B' : Nat} {w : World} {ws : List Wd} {e : Int} {ov : Value} {f : Flt} (h : OutV A B w ws e ov f) (hB : B' ≤ B) : OutV A B' w ws e ov f := by
  cases f with
  | ok => exact h
  | text k => exact AtB.mono h hB
  | lim k => exact AtB.mono h hB
theorem OutV.iface {A : Nat → Addr} {B : Nat} {w : World} {ws : List Wd} {e : Int} {ov : Value} {f : Flt} (h : OutV A B w ws e ov f) (hf : f ≠ .ok) : ∃ t v, ov = .iface t v := by
  cases f with
  | ok => exact absurd rfl hf
  | text k => obtain ⟨b, _, h, _⟩ := h; exact ⟨_, _, h⟩
  | lim k => obtain ⟨b, _, h, _⟩ := h; exact ⟨_, _, h⟩
theorem OutV.err {A : Nat → Addr} {B : Nat} {w : World} {ws : List Wd} {e : Int} {ov : Value} {f : Flt} (h : OutV A B w ws e ov f) (hS : Sents w A) : ErrAs w ov f.code f.placed (f.pos ws e) := by
  cases f with
  | ok => obtain rfl : ov = .nilIface := h; exact errAs_nil _
  | text k =>
    obtain ⟨b, _, rfl, h0, h1⟩ := h
    exact errAs_at hS 0 (by omega) b _ h0 h1
  | lim k =>
    obtain ⟨b, _, rfl, h0, h1⟩ := h
    exact errAs_at hS 1 (by omega) b _ h0 h1

set_option maxHeartbeats 1000000 in
theorem at_any (A : Nat → Addr) (k : Int) (i : Nat) (w : World) : Calls Tryd.prog 45 #[.int .i64 k, .iface 155 (.pointer (some (A i)))] w fun e w' => (∃ ev, e = .returned ev ∧ AtV A w' ev k i) ∧ Below w.heap.size w w' := by
  go_enter Tryd.func45, Tryd.ntmps45
  go_wp2
  go_ret
  refine ⟨⟨_, rfl, w.heap.size, rfl, ?_, ?_⟩, (Below.refl _ w).alloc (Nat.le_refl _) _⟩
  · rw [World.cell?_alloc_at _ _ _ _ (by simp)]; rfl
  · rw [World.cell?_alloc_at _ _ _ _ (by simp)]; rfl

set_option maxHeartbeats 1000000 in
theorem at_anyB (A : Nat → Addr) (k : Int) (i : Nat) (w : World) : Calls Tryd.prog 45 #[.int .i64 k, .iface 155 (.pointer (some (A i)))] w fun e w' => (∃ ev, e = .returned ev ∧ AtB A w.heap.size w' ev k i) ∧ Below w.heap.size w w' := by
  go_enter Tryd.func45, Tryd.ntmps45
  go_wp2
  go_ret
  refine ⟨⟨_, rfl, w.heap.size, Nat.le_refl _, rfl, ?_, ?_⟩, (Below.refl _ w).alloc (Nat.le_refl _) _⟩
  · rw [World.cell?_alloc_at _ _ _ _ (by simp)]; rfl
  · rw [World.cell?_alloc_at _ _ _ _ (by simp)]; rfl

set_option maxHeartbeats 2000000 in
theorem told_nil (A : Nat → Addr) (v : Value) (ws : List Wd) (e : Int) (w : World) (hS : Sents8 w A) :
    Calls Tryd.prog 30 #[.nilIface, v, .int .i64 e] w fun r w' => (∃ ov, r = .returned ov ∧ OutV A w.heap.size w' ws e ov .ok) ∧ Below w.heap.size w w' := by
  have HI := Lib.hid (fun W => is_nil (A 7) W)
  have HA := Lib.hid (fun t W => as_nil t W)
  have c7 := hS.c7
  have z7 : 2 < w.heap.size := World.block_lt_of_cell? w _ c7
  clear hS
  go_enter Tryd.func30, Tryd.ntmps30
  go_wp2_with (first
    | (go_at_call 47; refine (HI.out _).mono ?_; rintro e w' ⟨rfl, rfl⟩)
    | (go_at_call 48; refine (HA.out _ _).mono ?_; rintro e w' ⟨rfl, rfl⟩))
  go_ret
  exact ⟨⟨_, rfl, rfl⟩, (Below.refl _ w).alloc (Nat.le_refl _) _⟩

set_option maxHeartbeats 2000000 in
theorem told_lack (A : Nat → Addr) (v : Value) (ws : List Wd) (e : Int) (k : Nat) (w : World) (hS : Sents8 w A) (hk : ws.length ≤ k) :
    Calls Tryd.prog 30 #[sentV A 7, v, .int .i64 e] w fun r w' => (∃ ov, r = .returned ov ∧ OutV A w.heap.size w' ws e ov (.text k)) ∧ Below w.heap.size w w' := by
  have HI := Lib.hid (fun W => is_same (A 7) W)
  have HT := Lib.hid (fun W => at_anyB A e 0 W)
  have c7 := hS.c7
  have z7 : 2 < w.heap.size := World.block_lt_of_cell? w _ c7
  have c0 := hS.c0
  have z0 : 1 < w.heap.size := World.block_lt_of_cell? w _ c0
  have HS := Lib.hid hS; clear hS
  have HK := Lib.hid hk; clear hk
  unfold sentV
  generalize A 7 = a7 at *
  go_enter Tryd.func30, Tryd.ntmps30
  go_wp2_with (first
    | (go_at_call 47; refine (HI.out _).mono ?_; rintro e w' ⟨rfl, rfl⟩)
    | (go_at_call 45; refine (HT.out _).mono ?_; rintro e w' ⟨⟨ev, rfl, hat⟩, hb⟩))
  go_ret
  have hb1 := (Below.refl w.heap.size w).alloc (Nat.le_refl _) (.cells #[.pointer none] 68)
  have hbw := hb1.trans (hb.mono hb1.size)
  have hp : posL ws k e = e := by unfold posL; rw [if_neg (by have := HK.out; omega)]
  refine ⟨⟨_, rfl, ?_⟩, hbw⟩
  show AtB A w.heap.size _ _ (posL ws k e) 0
  rw [hp]
  exact hat.mono (by simp)

set_option maxHeartbeats 4000000 in
theorem told_at (A : Nat → Addr) (v ev : Value) (ws : List Wd) (e : Int) (k i : Nat) (w : World) (hS : Sents8 w A) (hv : WRowO w v ws) (hk : k < ws.length) (hi : i < 7) (he : AtV A w ev k i) :
    Calls Tryd.prog 30 #[ev, v, .int .i64 e] w fun r w' => (∃ ov, r = .returned ov ∧ AtB A w.heap.size w' ov (posL ws k e) i) ∧ Below w.heap.size w w' := by
  obtain ⟨b, rfl, h0, h1⟩ := he
  obtain ⟨g, off, cap, rfl, hcl, hcm, hw⟩ : ∃ g off cap, v = .slice (some ⟨g, off, none⟩) ws.length cap ∧ ws.length ≤ cap ∧ cap ≤ maxLen ∧ WCellsO w g off ws := by
    obtain ⟨a, c, rfl, h1, h2, h3⟩ := hv
    obtain ⟨g, off, rfl, h4⟩ := h3.resolve_left (by omega)
    exact ⟨g, off, c, rfl, h1, h2, h4⟩
  unfold maxLen at hcm
  obtain ⟨c7', t7', r7⟩ := hS.row7
  obtain ⟨ci, ti, ri⟩ := hS.row i hi
  have HT := Lib.hid (fun W => at_anyB A (ws.getD k wd0).2.1 i W)
  have hpos : w.cell? ⟨g, off + k * 3 + 1, none⟩ = some (.int .i64 (ws.getD k wd0).2.1) := hw.pos k hk
  have hp : posL ws k e = (ws.getD k wd0).2.1 := by unfold posL; rw [if_pos hk]
  rw [hp]
  have HI := Lib.hid (fun W (hW : Below w.heap.size w W) => is_at b (A 7) (A i) ci c7' ti t7' W ((hW.cell (p := ⟨b, 1, none⟩) (World.block_lt_of_cell? w _ h1)).trans h1) (hS.ne7 i hi) ((hW.block _ (by
    rcases Nat.lt_or_ge (A i).block w.heap.size with h' | h'
    · exact h'
    · rw [Array.getElem?_eq_none h'] at ri; cases ri)).trans ri) ((hW.block _ (by
    rcases Nat.lt_or_ge (A 7).block w.heap.size with h' | h'
    · exact h'
    · rw [Array.getElem?_eq_none h'] at r7; cases r7)).trans r7))
  have HA := Lib.hid (fun W (hW : Below w.heap.size w W) (old : Value) (h : W.cell? ⟨w.heap.size, 0, none⟩ = some old) (hf : W.frozen? ⟨w.heap.size, 0, none⟩ = false) => as_at ⟨b, 0, none⟩ w.heap.size old W ((hW.cell (p := ⟨3, 0, none⟩) (World.block_lt_of_cell? w _ hS.hd)).trans hS.hd) h hf)
  have c7 := hS.c7
  have z7 : 2 < w.heap.size := World.block_lt_of_cell? w _ c7
  have HSS := Lib.hid hS; clear hS
  have hg := hw.sq
  have hblt := World.block_lt_of_cell? w _ h0
  simp only at hblt
  clear hw ri r7 hp
  have hsv : sentV A i = .iface 155 (.pointer (some (A i))) := rfl
  rw [hsv] at h1
  clear hsv
  generalize (ws.getD k wd0).2.1 = pos at *
  generalize ws.length = n at *
  have HAI := Lib.hid (rfl : A i = A i)
  generalize hai : A i = ai at *
  have HAI2 := Lib.hid hai; clear hai HAI
  generalize hb0 : w.alloc (.cells #[.pointer none] 68) = wa
  have hba : Below w.heap.size w wa := by rw [← hb0]; exact (Below.refl _ w).alloc (Nat.le_refl _) _
  have ha0 : wa.cell? ⟨w.heap.size, 0, none⟩ = some (.pointer none) := by rw [← hb0, World.cell?_alloc_at _ _ _ _ (by simp)]; rfl
  have haf : wa.frozen? ⟨w.heap.size, 0, none⟩ = false := by rw [← hb0]; exact World.frozen?_alloc_at _ _ _ _ (by simp)
  have HBA := Lib.hid hba; clear hba
  have HAC := Lib.hid ha0; clear ha0
  have HAF := Lib.hid haf; clear haf
  have HB0 := Lib.hid hb0; clear hb0
  have hkc : (k : Int) < n := by omega
  have hk0 : (0 : Int) ≤ k := by omega
  go_enter Tryd.func30, Tryd.ntmps30
  go_wp2_with (first
    | (go_at_call 47; rw [HB0.out]; refine (HI.out _ HBA.out).mono ?_; rintro e w' ⟨rfl, rfl⟩)
    | (go_at_call 48; refine (HA.out _ HBA.out _ HAC.out HAF.out).mono ?_; rintro e w2 ⟨rfl, hb2, hc2⟩; have hbw := HBA.out.trans hb2; have g0 := (hbw.cell (p := ⟨b, 0, none⟩) hblt).trans h0; have g1 := (hbw.cell (p := ⟨b, 1, none⟩) hblt).trans h1; have g2 := (hbw.cell (p := ⟨g, off + k * 3 + 1, none⟩) hg).trans hpos))
  go_region_with (go_at_call 45; refine (HT.out _).mono ?_; rintro e w3 ⟨⟨ov, rfl, hat⟩, hb3⟩; have hbx := hbw.drew.trans (hb3.mono (by have := hbw.size; simpa using this)))
  all_goals go_wp2
  all_goals
    go_ret
    exact ⟨⟨_, rfl, hat.mono (by have := hbw.size; simpa using this)⟩, hbx⟩

/-- dimacs.told. -/
theorem told_any (A : Nat → Addr) (v ev : Value) (ws : List Wd) (e : Int) (f : Flt) (w : World) (hS : Sents8 w A) (hv : WRowO w v ws) (he : ErrV A w ws.length ev f) :
    Calls Tryd.prog 30 #[ev, v, .int .i64 e] w fun r w' => (∃ ov, r = .returned ov ∧ OutV A w.heap.size w' ws e ov f) ∧ Below w.heap.size w w' := by
  cases f with
  | ok => obtain rfl : ev = .nilIface := he; exact told_nil A v ws e w hS
  | text k =>
    rcases he with ⟨hk, he⟩ | ⟨hk, he⟩
    · exact (told_at A v ev ws e k 0 w hS hv hk (by omega) he).mono fun _ _ ⟨⟨ov, h1, h2⟩, h4⟩ => ⟨⟨ov, h1, h2⟩, h4⟩
    · subst he; exact told_lack A v ws e k w hS hk
  | lim k => exact (told_at A v ev ws e k 1 w hS hv he.1 (by omega) he.2).mono fun _ _ ⟨⟨ov, h1, h2⟩, h4⟩ => ⟨⟨ov, h1, h2⟩, h4⟩
end Go.Proofs.YtfoohdknjacenaaDoor
