/- Contracts of the reader's line, with the head's read and with the output's closure. Conditions: the reader lies as 'GR' says; the errors lie as 'Sents' says. · Contract of the reader's line with the output's closure. Conditions: the reader lies as 'GR' says; the errors lie as 'Sents' says. · Contract of the reader's out. Conditions: the reader lies as 'GR' says; the errors lie as 'Sents' says. · Contracts of bytes.Equal and bytes.HasPrefix at "c\n". Conditions: the slices read as bytes, and are not empty. · Contract of the reader's circuit. Conditions: the reader lies as 'GR' says; the errors lie as 'Sents' says. · Contract of the reader's circuit, behind its head. Conditions: the reader lies as 'GR' says; the errors lie as 'Sents' says. · The contract of aig.Read. Conditions: the slice reads as bytes, not too many; the errors lie as 'Sents' says. -/
import Derived.Test.YtfkodpglgeghlaaDoorGrX
import Derived.Test.YtfkodpglgeghlaaDoorRdZ
import Derived.Lib.ConvBytes
import Derived.Lib.SmallJoins
import Derived.Laws.AppendOwn
namespace Go.Proofs.YtfkodpglgeghlaaDoor
open Go.RowKit

/-- '[]byte(s)'. -/
theorem conv_str (xs : List Int) (hb : Bts xs) (hn : xs.length ≤ 4000000) (w : World) : ∃ c W', (convert 9 23 (.string (strOfNums xs))).run Tryd.prog w = .ok (.slice (some ⟨w.heap.size, 0, none⟩) xs.length c) W' ∧ Below w.heap.size w W' ∧ RowG (Value.int .u8) 0 W' (.slice (some ⟨w.heap.size, 0, none⟩) xs.length c) xs := by
  have h := Lib.run_convert_string_bytes (P := Tryd.prog) w 9 23 5 (strOfNums xs) Tryd.underlying9 Tryd.underlying23 Tryd.underlying5
  rw [strOfNums_size] at h
  refine ⟨_, _, h, Joins.below_bytesWorld _ _ _ _ (Nat.le_refl _), _, _, rfl, grownCap_ge _ _ _ _, grownCap_le_maxLen _ _ _ _ (by unfold maxLen; omega), .inr ⟨w.heap.size, 0, rfl, by rw [Lib.bytesWorld_size]; omega, fun i hi => ?_⟩⟩
  rw [Nat.zero_add, Lib.bytesWorld_cell w _ _ i (by rw [strOfNums_size]; exact hi)]
  refine congrArg (fun z => some (Value.int IntKind.u8 z)) ?_
  have e : (strOfNums xs).data.toList.getD i 0 = (strOfNums xs).data.toList[i]'(by simpa [strOfNums] using hi) := by simp [List.getD, strOfNums, hi]
  rw [e]
  have hbi := hb.at i
  simp only [strOfNums, List.getElem_map]
  rw [show xs[i] = xs.getD i 0 by simp [List.getD, hi]]
  exact u8_back hbi.1 hbi.2
theorem lnAt_len {xs : List Int} {f : Int} {r : List Int × Nat} (h : lnAt xs f = some r) : r.1.length ≤ xs.length ∧ r.2 ≤ xs.length ∧ (∀ x ∈ r.1, x ∈ xs) := by
  unfold lnAt at h
  split at h
  · cases hn : nlAt (xs.drop f.toNat) with
    | none => rw [hn] at h; cases h
    | some k =>
      rw [hn] at h
      injection h with h
      subst h
      have := (nlAt_lt hn).1
      rw [List.length_drop] at this
      refine ⟨by dsimp only; rw [List.length_take, List.length_drop]; omega, by dsimp only; omega, fun x hx => List.mem_of_mem_drop (List.mem_of_mem_take hx)⟩
  · cases h
/-- aig.at behind whatever was done. -/
theorem gat_on (A : Nat → Addr) (k : Nat) (i : Nat) (w W : World) (h : w.heap.size ≤ W.heap.size) : Calls Tryd.prog 29 #[.int .i64 (k : Int), .iface 135 (.pointer (some (A i)))] W fun e w' => ∃ ev, e = .returned ev ∧ AtB A w.heap.size w' ev (k : Int) i ∧ Below W.heap.size W w' :=
  (gat_any A (k : Int) i W).mono fun _ _ ⟨⟨ev, h1, h2⟩, h3⟩ => ⟨ev, h1, h2.mono h, h3⟩
def LineHP (A : Nat → Addr) (w : World) (B p q : Nat) (xs : List Int) (k : Nat) (r : Ending) (w' : World) : Prop :=
  match lineG xs k with
  | none => ∃ ev, r = .returned ev ∧ AtB A w.heap.size w' ev (k : Int) 0 ∧ Chg [p, q] w w'
  | some (ws, n) => match headG ws with
    | .bad f => ∃ ev, r = .returned ev ∧ AtB A w.heap.size w' ev (k : Int) (if f = true then 1 else 0) ∧ Chg [p, q] w w'
    | .got ns => r = .returned .nilIface ∧ GR w' B p xs n ∧ H5 w' q ns ∧ (∀ j, 0 ≤ kn ns j ∧ kn ns j < 1000000000) ∧ Chg [p, q] w w'
def LineOP (A : Nat → Addr) (w : World) (B p q2 : Nat) (xs : List Int) (R : Rg Int) (r : Ending) (w' : World) : Prop :=
  match R with
  | .bad k => ∃ ev, r = .returned ev ∧ AtB A w.heap.size w' ev (k : Int) 0 ∧ Below w.heap.size w w'
  | .got l n => r = .returned .nilIface ∧ GR w' B p xs n ∧ w'.cell? ⟨q2, 0, none⟩ = some (.int .i64 l) ∧ Chg [p, q2] w w'
theorem Chg.sub {S T : List Nat} {w w' : World} (h : Chg S w w') (hs : ∀ i ∈ S, i ∈ T) : Chg T w w' := ⟨h.os, h.tape, h.output, h.size, fun i hi hn => h.block i hi (fun hm => hn (hs i hm))⟩
theorem Chg.next {T : List Nat} {w a b : World} (h : Chg T w a) (k : Chg T a b) : Chg T w b := h.trans k (Fresh.refl _ _)

set_option maxRecDepth 4000 in
set_option maxHeartbeats 8000000 in
theorem gline_head (A : Nat → Addr) (B p q : Nat) (xs : List Int) (k : Nat) (w : World) (h : GR w B p xs k) (hS : ∀ W, Chg [p, q] w W → Sents W A) (h5 : H5 w q []) (hqp : q ≠ p) (hqB : B ≤ q) (hb : Bts xs) (hn : xs.length ≤ 1000000) :
    Calls Tryd.prog 45 #[.pointer (some ⟨p, 0, none⟩), .func (.func 46) #[.pointer (some ⟨q, 0, none⟩)] #[]] w (LineHP A w B p q xs k) := by
  obtain ⟨a, c, c0, hrow, hxc, hcm⟩ := h.row
  have c1 := h.2.1
  have hpl := h.2.2.2.1
  have hBp := h.2.2.2.2
  have HLN := Lib.hid (fun q => line_any (.slice a xs.length c) xs (k : Int) (w.drewN q) (hrow.keep (below_drewN (Below.refl _ _) q)) hb (by omega))
  have HCV := Lib.hid (fun s n (hs : lnAt xs (k : Int) = some (s, n)) q => conv_str s (fun x hx => hb x ((lnAt_len hs).2.2 x hx)) (by have := (lnAt_len hs).1; dsimp only at this; omega) (w.drewN q))
  have HSP := Lib.hid (fun s n (hs : lnAt xs (k : Int) = some (s, n)) u W (hu : RowG (Value.int .u8) 0 W u s) => split_row u s false W hu (fun x hx => hb x ((lnAt_len hs).2.2 x hx)) (by have := (lnAt_len hs).1; dsimp only at this; omega))
  have HWO : Hid (∀ s n, lnAt xs (k : Int) = some (s, n) → WOk (wordsL false s)) := (fun s n (hs : lnAt xs (k : Int) = some (s, n)) => (splitL_ok false s.length s (Nat.le_refl _) (by have := (lnAt_len hs).1; dsimp only at this; omega) (fun x hx => hb x ((lnAt_len hs).2.2 x hx)) 0 true false).1)
  have HD := Lib.hid (fun q => below_drewN (Below.refl w.heap.size w) q)
  have HAT := Lib.hid (fun i W (hW : w.heap.size ≤ W.heap.size) => gat_on A k i w W hW)
  have e0 := (hS w (Chg.refl _ _)).c0
  have z0 : 1 < w.heap.size := World.block_lt_of_cell? w _ e0
  have z2 : 0 < w.heap.size := by omega
  have HGR := Lib.hid h
  have H5W := Lib.hid h5
  have hql := h5.2.2
  have hpq : p ∉ [q] := by simp; omega
  have HSS := Lib.hid hS
  unfold LineHP lineG
  clear hrow h hS h5
  cases hl : lnAt xs (k : Int) with
  | none =>
    rw [hl] at HLN
    unfold lnV at HLN
    simp only [Option.map_none]
    clear HCV HSP HWO
    generalize xs.length = n at *
    go_enter Tryd.func45, Tryd.ntmps45
    go_wp2_with fail
    go_quiet ((go_at_call 64; refine (HLN.out _).mono ?_; rintro e1 w1 ⟨rfl, rfl⟩; exact ⟨rfl, _, rfl⟩))
    go_wp2_with fail
    go_region_with (go_at_call 29; refine (HAT.out 0 _ (HD.out _).size).mono ?_; rintro e1 w1 ⟨ev, rfl, hat, hb1⟩; have hbw := (HD.out _).trans (hb1.mono (HD.out _).size))
    all_goals
      go_wp2_with fail
      go_ret
      exact ⟨ev, rfl, hat, Chg.of_below hbw⟩
  | some r =>
    obtain ⟨s, n⟩ := r
    rw [hl] at HLN
    unfold lnV at HLN
    simp only [Option.map_some]
    have HCV' := Lib.hid (HCV.out s n hl)
    have HSP' := Lib.hid (HSP.out s n hl)
    have HWO' := Lib.hid (HWO.out s n hl)
    have HNL := Lib.hid (lnAt_len hl).2.1
    clear HCV HSP HWO hl
    generalize wordsL false s = ws at *
    generalize xs.length = m at *
    have HCL : Hid (∀ nq W W2 u, Below (w.drewN nq).heap.size (w.drewN nq) W → WRow W2 u ws → Below W.heap.size W W2 → Calls Tryd.prog 46 #[.pointer (some ⟨q, 0, none⟩), u] W2 (HrP A W2 q (headG ws)) ∧ Below w.heap.size w W2) := fun nq W W2 u hW hr h2 => by
      have hbw : Below w.heap.size w W2 := ((HD.out nq).trans (hW.mono (HD.out nq).size)).trans (h2.mono (Nat.le_trans (HD.out nq).size hW.size))
      have hc : Chg [p, q] w W2 := Chg.of_below hbw
      have h52 : H5 W2 q [] := H5W.out.chg (S := []) (Chg.of_below hbw) (by simp)
      refine ⟨hread_any A q u ws W2 (fun W3 h3 => HSS.out W3 (hc.next (h3.sub (by simp)))) hr HWO'.out (fun g c' hu e => ?_) h52, hbw⟩
      subst e
      obtain ⟨a1, c2, e1, _, _, h4⟩ := hr
      rw [hu] at e1
      injection e1 with e1 e2 _
      obtain ⟨g', e3, hcl⟩ := h4.resolve_left (by omega)
      rw [← e1] at e3
      injection e3 with e3
      injection e3 with e3 _ _
      subst e3
      have k1 := hcl.text 0 (by omega)
      have k2 := h52.1 0 (by decide)
      rw [Nat.zero_mul] at k1
      rw [k1] at k2
      cases k2
    have HC4 : Hid (∀ w2, Below w.heap.size w w2 → ∀ W, Chg [q] w2 W → Chg [p, q] w W ∧ W.cell? ⟨p, 1, none⟩ = some (.int .i64 (k : Int)) ∧ (∀ o, W.frozen? ⟨p, o, none⟩ = false) ∧ p < W.heap.size ∧ w.heap.size ≤ W.heap.size ∧ GR W B p xs k) := fun w2 h2 W hW => by
      have hg := (HGR.out.chg h2).keep hW hpq (by simp; omega)
      exact ⟨(Chg.of_below h2).next (hW.sub (by simp)), hg.2.1, hg.2.2.1, hg.2.2.2.1, Nat.le_trans h2.size hW.size, hg⟩
    generalize headG ws = R at *
    rcases R with f | ns
    · cases f with
      | false =>
        unfold HrP sentV at HCL
        simp only [Bool.false_eq_true, if_false] at HCL ⊢
        go_enter Tryd.func45, Tryd.ntmps45
        go_wp2_with fail
        go_quiet ((go_at_call 64; refine (HLN.out _).mono ?_; rintro e1 w1 ⟨rfl, rfl⟩; exact ⟨rfl, _, rfl⟩))
        obtain ⟨cv, W1, hcv, hbv, hrv⟩ := HCV'.out nq
        have HRV := Lib.hid hrv; clear hrv
        have HBV := Lib.hid hbv; clear hbv
        go_wp2_with fail
        have hz : (w.drewN nq).heap.size = w.heap.size := by simp
        rw [hz] at HRV
        refine (HSP'.out _ W1 HRV.out).mono ?_
        rintro e2 w2 ⟨⟨u, rfl, hr⟩, hb2⟩
        obtain ⟨hcl, hbw⟩ := HCL.out nq W1 w2 u HBV.out hr hb2
        have HC2 := Lib.hid hcl
        have HBW := Lib.hid hbw
        clear hcl hbw hb2 hr HCL HRV HBV hcv HSP' HCV' HLN
        go_wp2_with (first
          | (go_at_call 46; refine HC2.out.mono ?_; rintro e3 w3 ⟨rfl, hch⟩; obtain ⟨h31, y1, y2, y3, y4, h32⟩ := HC4.out _ HBW.out _ hch; have HC31 := Lib.hid h31; clear h31 h32 hch)
          | (go_at_call 29; refine (HAT.out _ _ y4).mono ?_; rintro e4 w4 ⟨ev, rfl, hat, hb4⟩))
        go_ret
        exact ⟨ev, rfl, hat, HC31.out.next (Chg.of_below hb4)⟩
      | true =>
        unfold HrP sentV at HCL
        simp only [if_true] at HCL ⊢
        go_enter Tryd.func45, Tryd.ntmps45
        go_wp2_with fail
        go_quiet ((go_at_call 64; refine (HLN.out _).mono ?_; rintro e1 w1 ⟨rfl, rfl⟩; exact ⟨rfl, _, rfl⟩))
        obtain ⟨cv, W1, hcv, hbv, hrv⟩ := HCV'.out nq
        have HRV := Lib.hid hrv; clear hrv
        have HBV := Lib.hid hbv; clear hbv
        go_wp2_with fail
        have hz : (w.drewN nq).heap.size = w.heap.size := by simp
        rw [hz] at HRV
        refine (HSP'.out _ W1 HRV.out).mono ?_
        rintro e2 w2 ⟨⟨u, rfl, hr⟩, hb2⟩
        obtain ⟨hcl, hbw⟩ := HCL.out nq W1 w2 u HBV.out hr hb2
        have HC2 := Lib.hid hcl
        have HBW := Lib.hid hbw
        clear hcl hbw hb2 hr HCL HRV HBV hcv HSP' HCV' HLN
        go_wp2_with (first
          | (go_at_call 46; refine HC2.out.mono ?_; rintro e3 w3 ⟨rfl, hch⟩; obtain ⟨h31, y1, y2, y3, y4, h32⟩ := HC4.out _ HBW.out _ hch; have HC31 := Lib.hid h31; clear h31 h32 hch)
          | (go_at_call 29; refine (HAT.out _ _ y4).mono ?_; rintro e4 w4 ⟨ev, rfl, hat, hb4⟩))
        go_ret
        exact ⟨ev, rfl, hat, HC31.out.next (Chg.of_below hb4)⟩
    · unfold HrP at HCL
      simp only at HCL ⊢
      go_enter Tryd.func45, Tryd.ntmps45
      go_wp2_with fail
      go_quiet ((go_at_call 64; refine (HLN.out _).mono ?_; rintro e1 w1 ⟨rfl, rfl⟩; exact ⟨rfl, _, rfl⟩))
      obtain ⟨cv, W1, hcv, hbv, hrv⟩ := HCV'.out nq
      have HRV := Lib.hid hrv; clear hrv
      have HBV := Lib.hid hbv; clear hbv
      go_wp2_with fail
      have hz : (w.drewN nq).heap.size = w.heap.size := by simp
      rw [hz] at HRV
      refine (HSP'.out _ W1 HRV.out).mono ?_
      rintro e2 w2 ⟨⟨u, rfl, hr⟩, hb2⟩
      obtain ⟨hcl, hbw⟩ := HCL.out nq W1 w2 u HBV.out hr hb2
      have HC2 := Lib.hid hcl
      have HBW := Lib.hid hbw
      clear hcl hbw hb2 hr HCL HRV HBV hcv HSP' HCV' HLN
      go_wp2_with (go_at_call 46; refine HC2.out.mono ?_; rintro e3 w3 ⟨rfl, hh5, hbd, hch⟩; obtain ⟨h31, y1, y2, y3, y4, h32⟩ := HC4.out _ HBW.out _ hch; have HC31 := Lib.hid h31; have HG3 := Lib.hid h32; have HH5 := Lib.hid hh5; have HBD := Lib.hid hbd; clear h31 h32 hch hh5 hbd)
      go_ret
      exact ⟨rfl, HG3.out.move, HH5.out.chg (S := [p]) ((Chg.refl _ _).setCell (.inl (by simp)) _) (by simpa using hqp), HBD.out, HC31.out.setCell (.inl (by simp)) _⟩
end Go.Proofs.YtfkodpglgeghlaaDoor

namespace Go.Proofs.YtfkodpglgeghlaaDoor
open Go.RowKit

set_option maxRecDepth 4000 in
set_option maxHeartbeats 8000000 in
theorem gline_out (A : Nat → Addr) (B p q1 q2 : Nat) (last : Int) (xs : List Int) (k : Nat) (w : World) (h : GR w B p xs k) (hS : ∀ W, Chg [p, q2] w W → Sents W A) (h1 : w.cell? ⟨q1, 0, none⟩ = some (.int .i64 last)) (h2 : w.cell? ⟨q2, 0, none⟩ = some (.int .i64 0)) (hf : w.frozen? ⟨q2, 0, none⟩ = false) (hqp : q2 ≠ p) (hqB : B ≤ q2) (hb : Bts xs) (hn : xs.length ≤ 1000000) :
    Calls Tryd.prog 45 #[.pointer (some ⟨p, 0, none⟩), .func (.func 67) #[] #[.pointer (some ⟨q1, 0, none⟩), .pointer (some ⟨q2, 0, none⟩)]] w (LineOP A w B p q2 xs (outG xs last k)) := by
  obtain ⟨a, c, c0, hrow, hxc, hcm⟩ := h.row
  have c1 := h.2.1
  have hpl := h.2.2.2.1
  have hBp := h.2.2.2.2
  have HLN := Lib.hid (fun q => line_any (.slice a xs.length c) xs (k : Int) (w.drewN q) (hrow.keep (below_drewN (Below.refl _ _) q)) hb (by omega))
  have HCV := Lib.hid (fun s n (hs : lnAt xs (k : Int) = some (s, n)) q => conv_str s (fun x hx => hb x ((lnAt_len hs).2.2 x hx)) (by have := (lnAt_len hs).1; dsimp only at this; omega) (w.drewN q))
  have HSP := Lib.hid (fun s n (hs : lnAt xs (k : Int) = some (s, n)) u W (hu : RowG (Value.int .u8) 0 W u s) => split_row u s false W hu (fun x hx => hb x ((lnAt_len hs).2.2 x hx)) (by have := (lnAt_len hs).1; dsimp only at this; omega))
  have HWO : Hid (∀ s n, lnAt xs (k : Int) = some (s, n) → WOk (wordsL false s)) := (fun s n (hs : lnAt xs (k : Int) = some (s, n)) => (splitL_ok false s.length s (Nat.le_refl _) (by have := (lnAt_len hs).1; dsimp only at this; omega) (fun x hx => hb x ((lnAt_len hs).2.2 x hx)) 0 true false).1)
  have HD := Lib.hid (fun q => below_drewN (Below.refl w.heap.size w) q)
  have HAT := Lib.hid (fun i W (hW : w.heap.size ≤ W.heap.size) => gat_on A k i w W hW)
  have e0 := (hS w (Chg.refl _ _)).c0
  have z0 : 1 < w.heap.size := World.block_lt_of_cell? w _ e0
  have z2 : 0 < w.heap.size := by omega
  have HGR := Lib.hid h
  have hq1 := World.block_lt_of_cell? w _ h1
  have hq2 := World.block_lt_of_cell? w _ h2
  have HQ := Lib.hid (And.intro h1 (And.intro h2 hf))
  have hpq : p ∉ [q2] := by simp; omega
  have HSS := Lib.hid hS
  unfold outG lineG
  clear hrow h hS h1 h2 hf
  cases hl : lnAt xs (k : Int) with
  | none =>
    rw [hl] at HLN
    unfold lnV at HLN
    simp only [Option.map_none]
    unfold LineOP
    simp only
    clear HCV HSP HWO
    generalize xs.length = n at *
    go_enter Tryd.func45, Tryd.ntmps45
    go_wp2_with fail
    go_quiet ((go_at_call 64; refine (HLN.out _).mono ?_; rintro e1 w1 ⟨rfl, rfl⟩; exact ⟨rfl, _, rfl⟩))
    go_wp2_with fail
    go_region_with (go_at_call 29; refine (HAT.out 0 _ (HD.out _).size).mono ?_; rintro e1 w1 ⟨ev, rfl, hat, hb1⟩; have hbw := (HD.out _).trans (hb1.mono (HD.out _).size))
    all_goals
      go_wp2_with fail
      go_ret
      exact ⟨ev, rfl, hat, hbw⟩
  | some r =>
    obtain ⟨s, n⟩ := r
    rw [hl] at HLN
    unfold lnV at HLN
    simp only [Option.map_some]
    have HCV' := Lib.hid (HCV.out s n hl)
    have HSP' := Lib.hid (HSP.out s n hl)
    have HWO' := Lib.hid (HWO.out s n hl)
    clear HCV HSP HWO hl
    generalize wordsL false s = ws at *
    generalize xs.length = m at *
    have HCL : Hid (∀ nq W W2 u, Below (w.drewN nq).heap.size (w.drewN nq) W → WRow W2 u ws → Below W.heap.size W W2 → Calls Tryd.prog 67 #[u, .pointer (some ⟨q1, 0, none⟩), .pointer (some ⟨q2, 0, none⟩)] W2 (OcP A W2 q2 (outW last ws)) ∧ Below w.heap.size w W2) := fun nq W W2 u hW hr h2 => by
      have hbw : Below w.heap.size w W2 := ((HD.out nq).trans (hW.mono (HD.out nq).size)).trans (h2.mono (Nat.le_trans (HD.out nq).size hW.size))
      have hc : Chg [p, q2] w W2 := Chg.of_below hbw
      exact ⟨oclo_any A q1 q2 last u ws W2 (fun W3 h3 => HSS.out W3 (hc.next (h3.sub (by simp)))) hr HWO'.out ((hbw.cell (p := ⟨q1, 0, none⟩) hq1).trans HQ.out.1) ((hbw.cell (p := ⟨q2, 0, none⟩) hq2).trans HQ.out.2.1) ((hbw.frozen (p := ⟨q2, 0, none⟩) hq2).trans HQ.out.2.2), hbw⟩
    have HC4 : Hid (∀ w2, Below w.heap.size w w2 → ∀ W, Chg [q2] w2 W → Chg [p, q2] w W ∧ W.cell? ⟨p, 1, none⟩ = some (.int .i64 (k : Int)) ∧ (∀ o, W.frozen? ⟨p, o, none⟩ = false) ∧ p < W.heap.size ∧ w.heap.size ≤ W.heap.size ∧ GR W B p xs k) := fun w2 h2 W hW => by
      have hg := (HGR.out.chg h2).keep hW hpq (by simp; omega)
      exact ⟨(Chg.of_below h2).next (hW.sub (by simp)), hg.2.1, hg.2.2.1, hg.2.2.2.1, Nat.le_trans h2.size hW.size, hg⟩
    generalize outW last ws = R at *
    rcases R with _ | l
    · unfold OcP sentV at HCL
      unfold LineOP
      simp only at HCL ⊢
      go_enter Tryd.func45, Tryd.ntmps45
      go_wp2_with fail
      go_quiet ((go_at_call 64; refine (HLN.out _).mono ?_; rintro e1 w1 ⟨rfl, rfl⟩; exact ⟨rfl, _, rfl⟩))
      obtain ⟨cv, W1, hcv, hbv, hrv⟩ := HCV'.out nq
      have HRV := Lib.hid hrv; clear hrv
      have HBV := Lib.hid hbv; clear hbv
      go_wp2_with fail
      have hz : (w.drewN nq).heap.size = w.heap.size := by simp
      rw [hz] at HRV
      refine (HSP'.out _ W1 HRV.out).mono ?_
      rintro e2 w2 ⟨⟨u, rfl, hr⟩, hb2⟩
      obtain ⟨hcl, hbw⟩ := HCL.out nq W1 w2 u HBV.out hr hb2
      have HC2 := Lib.hid hcl
      have HBW := Lib.hid hbw
      clear hcl hbw hb2 hr HCL HRV HBV hcv HSP' HCV' HLN
      go_wp2_with (first
        | (go_at_call 67; refine HC2.out.mono ?_; rintro e3 w3 ⟨rfl, hb3⟩; obtain ⟨h31, y1, y2, y3, y4, h32⟩ := HC4.out _ HBW.out _ (Chg.of_below hb3); have HB3 := Lib.hid (HBW.out.trans (hb3.mono HBW.out.size)); clear h31 h32 hb3)
        | (go_at_call 29; refine (HAT.out _ _ y4).mono ?_; rintro e4 w4 ⟨ev, rfl, hat, hb4⟩))
      go_ret
      exact ⟨ev, rfl, hat, HB3.out.trans (hb4.mono HB3.out.size)⟩
    · unfold OcP at HCL
      unfold LineOP
      simp only at HCL ⊢
      go_enter Tryd.func45, Tryd.ntmps45
      go_wp2_with fail
      go_quiet ((go_at_call 64; refine (HLN.out _).mono ?_; rintro e1 w1 ⟨rfl, rfl⟩; exact ⟨rfl, _, rfl⟩))
      obtain ⟨cv, W1, hcv, hbv, hrv⟩ := HCV'.out nq
      have HRV := Lib.hid hrv; clear hrv
      have HBV := Lib.hid hbv; clear hbv
      go_wp2_with fail
      have hz : (w.drewN nq).heap.size = w.heap.size := by simp
      rw [hz] at HRV
      refine (HSP'.out _ W1 HRV.out).mono ?_
      rintro e2 w2 ⟨⟨u, rfl, hr⟩, hb2⟩
      obtain ⟨hcl, hbw⟩ := HCL.out nq W1 w2 u HBV.out hr hb2
      have HC2 := Lib.hid hcl
      have HBW := Lib.hid hbw
      clear hcl hbw hb2 hr HCL HRV HBV hcv HSP' HCV' HLN
      go_wp2_with (go_at_call 67; refine HC2.out.mono ?_; rintro e3 w3 ⟨rfl, hq, hch⟩; obtain ⟨h31, y1, y2, y3, y4, h32⟩ := HC4.out _ HBW.out _ hch; have HC31 := Lib.hid h31; have HG3 := Lib.hid h32; have HQ3 := Lib.hid hq; clear h31 h32 hch hq)
      go_ret
      exact ⟨rfl, HG3.out.move, (set_off (.inl (by omega))).trans HQ3.out, HC31.out.setCell (.inl (by simp)) _⟩

end Go.Proofs.YtfkodpglgeghlaaDoor

namespace Go.Proofs.YtfkodpglgeghlaaDoor
open Go.RowKit

theorem outG_got {xs : List Int} {last n : Int} {k k' : Nat} (h : outG xs last k = .got n k') : 0 ≤ n ∧ n < 1000000000 ∧ n ≤ last ∧ k' ≤ xs.length := by
  unfold outG lineG at h
  cases hl : lnAt xs (k : Int) with
  | none => rw [hl] at h; cases h
  | some r =>
    rw [hl] at h
    simp only [Option.map_some] at h
    cases ho : outW last (wordsL false r.1) with
    | none => rw [ho] at h; cases h
    | some l =>
      rw [ho] at h
      injection h with h1 h2
      subst h1; subst h2
      obtain ⟨a, b, c⟩ := outW_got ho
      exact ⟨a, b, c, (lnAt_len hl).2.1⟩
def OutGP (A : Nat → Addr) (w : World) (B p : Nat) (xs : List Int) (R : Rg Int) (r : Ending) (w' : World) : Prop :=
  match R with
  | .bad k => ∃ ev, r = .returned (.tuple #[.int .i64 0, ev]) ∧ AtB A w.heap.size w' ev (k : Int) 0 ∧ Chg [p] w w'
  | .got n k => r = .returned (.tuple #[.int .i64 n, .nilIface]) ∧ GR w' B p xs k ∧ Chg [p] w w'

set_option maxHeartbeats 4000000 in
theorem gout_any (A : Nat → Addr) (B p : Nat) (last : Int) (xs : List Int) (k : Nat) (w : World) (h : GR w B p xs k) (hS : SentsP A p w) (hb : Bts xs) (hn : xs.length ≤ 1000000) :
    Calls Tryd.prog 48 #[.pointer (some ⟨p, 0, none⟩), .int .i64 last] w (OutGP A w B p xs (outG xs last k)) := by
  have hpl := h.2.2.2.1
  have hBp := h.2.2.2.2
  have hb2 : Below w.heap.size w ((w.alloc (.cells #[.int .i64 last] 3)).alloc (.cells #[.int .i64 0] 3)) := ((Below.refl _ w).alloc (Nat.le_refl _) _).alloc (by simp) _
  have hz2 : ((w.alloc (.cells #[.int .i64 last] 3)).alloc (.cells #[.int .i64 0] 3)).heap.size = w.heap.size + 2 := by simp
  have HSZ := Lib.hid hz2
  have HBB := Lib.hid hb2
  have HL := Lib.hid (gline_out A B p w.heap.size (w.heap.size + 1) last xs k _ (h.chg hb2) (fun W hW => hS W ((Chg.of_below (S := [p]) hb2).trans hW (fun i hi => by
    rcases List.mem_cons.1 hi with rfl | hi
    · exact .inl (by simp)
    · have e := List.mem_singleton.1 hi; subst e; exact .inr (by omega)))) (by
    rw [World.cell?_alloc_past _ _ _ (by simp), World.cell?_alloc_at _ _ _ _ (by simp)]; rfl) (by
    rw [show w.heap.size + 1 = (w.alloc (.cells #[.int .i64 last] 3)).heap.size by simp, World.cell?_alloc_at _ _ _ _ (by simp)]; rfl) (by
    rw [show w.heap.size + 1 = (w.alloc (.cells #[.int .i64 last] 3)).heap.size by simp]; exact World.frozen?_alloc_at _ _ _ _ (by simp)) (by omega) (by omega) hb hn)
  have HQ0 : Hid (((w.alloc (.cells #[.int .i64 last] 3)).alloc (.cells #[.int .i64 0] 3)).cell? ⟨w.heap.size + 1, 0, none⟩ = some (.int .i64 0)) := by
    unfold Hid
    rw [show w.heap.size + 1 = (w.alloc (.cells #[.int .i64 last] 3)).heap.size by simp, World.cell?_alloc_at _ _ _ _ (by simp)]; rfl
  clear h hS hb2 hz2
  cases hR : outG xs last k with
  | bad k1 =>
    rw [hR] at HL
    unfold LineOP at HL
    unfold OutGP
    simp only at HL ⊢
    go_enter Tryd.func48, Tryd.ntmps48
    go_wp2_with fail
    refine HL.out.mono ?_
    rintro e1 w1 ⟨ev, rfl, hat, hb1⟩
    have hq : w1.cell? ⟨w.heap.size + 1, 0, none⟩ = some (.int .i64 0) := (hb1.cell (p := ⟨w.heap.size + 1, 0, none⟩) (by rw [HSZ.out]; exact Nat.lt_succ_self _)).trans HQ0.out
    have HAT := Lib.hid (hat.mono (show w.heap.size ≤ _ by rw [HSZ.out]; omega))
    have HB1 := Lib.hid (HBB.out.trans (hb1.mono (by rw [HSZ.out]; omega)))
    clear hat hb1
    go_wp2_with fail
    go_ret2
    exact ⟨ev, rfl, HAT.out, Chg.of_below HB1.out⟩
  | got l k1 =>
    rw [hR] at HL
    unfold LineOP at HL
    unfold OutGP
    simp only at HL ⊢
    go_enter Tryd.func48, Tryd.ntmps48
    go_wp2_with fail
    refine HL.out.mono ?_
    rintro e1 w1 ⟨rfl, hg, hq, hch⟩
    have HG := Lib.hid hg
    have HC := Lib.hid (show Chg [p] w w1 from (Chg.of_below (S := [p]) HBB.out).trans hch (fun i hi => by
      rcases List.mem_cons.1 hi with rfl | hi
      · exact .inl (by simp)
      · have e := List.mem_singleton.1 hi; subst e; exact .inr (by omega)))
    clear hg hch
    go_wp2_with fail
    go_ret2
    exact ⟨rfl, HG.out, HC.out⟩
end Go.Proofs.YtfkodpglgeghlaaDoor

namespace Go.Proofs.YtfkodpglgeghlaaDoor
open Go.RowKit

theorem conv_ne {w : World} {v : Value} {xs : List Int} (h : RowG (Value.int .u8) 0 w v xs) (h0 : 0 < xs.length) : (convert 23 9 v).run Tryd.prog w = .ok (.string (strOfNums xs)) w := by
  obtain ⟨a, c, rfl, _, _, hx⟩ := h
  obtain ⟨b, off, rfl, _, hc⟩ := hx.resolve_left (by omega)
  exact run_convert_bytes_arg w 23 5 Tryd.underlying23 Tryd.underlying5 b off xs.length c xs rfl hc 9 Tryd.underlying9

set_option maxHeartbeats 1000000 in
theorem bequal_any (v u : Value) (xs ys : List Int) (w : World) (hv : RowG (Value.int .u8) 0 w v xs) (hu : RowG (Value.int .u8) 0 w u ys) (bx : Bts xs) (bY : Bts ys) (h0 : 0 < xs.length) (h1 : 0 < ys.length) :
    Calls Tryd.prog 69 #[v, u] w fun e w' => e = .returned (.bool (decide (xs = ys))) ∧ w = w' := by
  have c1 := conv_ne hv h0
  have c2 := conv_ne hu h1
  have he : ((strOfNums xs).toList == (strOfNums ys).toList) = decide (xs = ys) := by
    by_cases e : xs = ys
    · subst e; simp
    · rw [decide_eq_false e]
      have : (strOfNums xs).toList ≠ (strOfNums ys).toList := fun h => e (str_inj bx bY h)
      simpa using this
  clear hv hu bx bY h0 h1
  generalize decide (xs = ys) = r at *
  generalize strOfNums xs = s at *
  generalize strOfNums ys = t at *
  go_enter Tryd.func69, Tryd.ntmps69
  go_wp2_with fail
  go_ret
  exact ⟨rfl, rfl⟩
/-- The front of a row. -/
theorem rowG_take {w : World} {b off n c : Nat} {xs : List Int} (h : RowG (Value.int .u8) 0 w (.slice (some ⟨b, off, none⟩) n c) xs) (k : Nat) (hk : 0 < k) (hkn : k ≤ n) : RowG (Value.int .u8) 0 w (.slice (some ⟨b, off, none⟩) k c) (xs.take k) := by
  obtain ⟨a', c', e, h1, h2, h3⟩ := h
  injection e with e1 e2 e3
  subst e2; subst e3
  obtain ⟨b', off', e4, h4, h5⟩ := h3.resolve_left (by omega)
  rw [← e1] at e4
  injection e4 with e4
  injection e4 with e5 e6 _
  subst e5; subst e6
  have hl : (xs.take k).length = k := by rw [List.length_take]; omega
  refine ⟨_, c, by rw [hl], by omega, h2, .inr ⟨b, off, rfl, h4, fun i hi => ?_⟩⟩
  rw [h5 i (by omega)]
  congr 2
  simp [List.getD, show i < k by omega]

set_option maxHeartbeats 1000000 in
theorem bprefix_any (b off n c : Nat) (u : Value) (xs : List Int) (w : World) (hv : RowG (Value.int .u8) 0 w (.slice (some ⟨b, off, none⟩) n c) xs) (hu : RowG (Value.int .u8) 0 w u [99, 10]) (bx : Bts xs) (h0 : 0 < xs.length) :
    Calls Tryd.prog 50 #[.slice (some ⟨b, off, none⟩) n c, u] w fun e w' => e = .returned (.bool (decide (xs.take 2 = [99, 10]))) ∧ w = w' := by
  have hn : xs.length = n ∧ n ≤ c ∧ c ≤ maxLen := by
    obtain ⟨a', c', e, h1, h2, _⟩ := hv
    injection e with e1 e2 e3
    exact ⟨e2.symm, by omega, by omega⟩
  obtain ⟨hn1, hn2, hn3⟩ := hn
  unfold maxLen at hn3
  obtain ⟨a2, c2, rfl, k1, k2, _⟩ := id hu
  unfold maxLen at k2
  have k1' : 2 ≤ c2 := k1
  show Calls Tryd.prog 50 #[.slice (some ⟨b, off, none⟩) n c, .slice a2 2 c2] w _
  by_cases h2 : 2 ≤ n
  · have HE := Lib.hid (bequal_any (.slice (some ⟨b, off, none⟩) 2 c) (.slice a2 2 c2) (xs.take 2) [99, 10] w (rowG_take hv 2 (by omega) h2) hu (bx.take 2) (by intro x hx; simp at hx; omega) (by rw [List.length_take]; omega) (by simp))
    clear hv hu bx h0 k1
    generalize decide (xs.take 2 = [99, 10]) = r at *
    clear hn1
    go_enter Tryd.func50, Tryd.ntmps50
    go_wp2_with (go_at_call 69; refine HE.out.mono ?_; rintro e w' ⟨rfl, rfl⟩)
    go_ret
    exact ⟨rfl, rfl⟩
  · have hr : decide (xs.take 2 = [99, 10]) = false := decide_eq_false fun e => by
      have := congrArg List.length e
      rw [List.length_take] at this
      simp at this
      omega
    rw [hr]
    clear hv hu bx h0 k1 hr hn1
    go_enter Tryd.func50, Tryd.ntmps50
    go_wp2_with fail
    go_ret
    exact ⟨rfl, rfl⟩
end Go.Proofs.YtfkodpglgeghlaaDoor

namespace Go.Proofs.YtfkodpglgeghlaaDoor
open Go.RowKit

theorem gres3 {W : World} {q : Nat} {n : Int} {u v ev : Value} {tmps : Array Value} (h : CB W q n u v) (h2 : tmps.getD 2 undef = .pointer (some ⟨q, 0, none⟩)) (h3 : tmps.getD 3 undef = ev) : (results Tryd.f30 tmps).run Tryd.prog W = .ok (.tuple #[circV n u v, ev]) W := by
  obtain ⟨c0, c1, c2, _, _⟩ := h
  rw [Array.getD_eq_getD_getElem?] at h2 h3
  simp [results, Tryd.results30, go_sem, circV, h2, h3, c0, c1, c2]
def head0 : Obj := .cells #[.int .i64 0, .int .i64 0, .int .i64 0, .int .i64 0, .int .i64 0] 78
theorem head0_h5 (W : World) : H5 (W.alloc head0) W.heap.size [] := by
  refine ⟨fun j hj => ?_, fun o => World.frozen?_alloc_at _ _ _ _ (by simp), by simp⟩
  unfold head0
  rw [World.cell?_alloc_at _ _ _ _ (by simp)]
  rcases (by omega : j = 0 ∨ j = 1 ∨ j = 2 ∨ j = 3 ∨ j = 4) with rfl | rfl | rfl | rfl | rfl <;> rfl
theorem chg_new {p q : Nat} {w W0 W : World} (hb : Below w.heap.size w W0) (h : Chg [p, q] W0 W) (hq : w.heap.size ≤ q) : Chg [p] w W := (Chg.of_below (S := [p]) hb).trans h (fun i hi => by
  rcases List.mem_cons.1 hi with rfl | hi
  · exact .inl (by simp)
  · have e := List.mem_singleton.1 hi; subst e; exact .inr hq)

set_option maxHeartbeats 4000000 in
theorem gcirc_head {A : Nat → Addr} {B p : Nat} {xs : List Int} {w : World} (h : GR w B p xs 0) (hS : SentsP A p w) (hb : Bts xs) (hn : xs.length ≤ 1000000) (hBw : B ≤ w.heap.size) (f : Bool) (hf : (lineG xs 0 = none ∧ f = false) ∨ ∃ ws n, lineG xs 0 = some (ws, n) ∧ headG ws = .bad f) :
    Calls Tryd.prog 30 #[.pointer (some ⟨p, 0, none⟩)] w (CircP A w p (badC (f, 0))) := by
  have hpl : p < w.heap.size := h.2.2.2.1
  have hb2 : Below w.heap.size w ((w.alloc circ0).alloc head0) := ((Below.refl w.heap.size w).alloc (Nat.le_refl _) circ0).alloc (by simp) head0
  have hz1 : (w.alloc circ0).heap.size = w.heap.size + 1 := by simp
  have hz2 : ((w.alloc circ0).alloc head0).heap.size = w.heap.size + 2 := by simp
  have HC0 := Lib.hid (show CB ((w.alloc circ0).alloc head0) w.heap.size 0 (.slice none 0 0) (.slice none 0 0) from (CB.start w 0 (.slice none 0 0) (.slice none 0 0) 27).chg (S := []) (Chg.of_below ((Below.refl _ _).alloc (Nat.le_refl _) head0)) (by simp))
  have h5 := head0_h5 (w.alloc circ0)
  rw [hz1] at h5
  have HBB := Lib.hid hb2
  have HL := Lib.hid (gline_head A B p (w.heap.size + 1) xs 0 _ (h.chg hb2) (fun W hW => hS W (chg_new hb2 hW (by omega))) h5 (by omega) (by omega) hb hn)
  have HH : Hid (Calls Tryd.prog 45 #[.pointer (some ⟨p, 0, none⟩), .func (.func 46) #[.pointer (some ⟨w.heap.size + 1, 0, none⟩)] #[]] ((w.alloc circ0).alloc head0) fun r w' => ∃ ev, r = .returned ev ∧ AtB A ((w.alloc circ0).alloc head0).heap.size w' ev 0 (if f = true then 1 else 0) ∧ Chg [p, w.heap.size + 1] ((w.alloc circ0).alloc head0) w') := by
    refine HL.out.mono fun r w' hr => ?_
    unfold LineHP at hr
    rcases hf with ⟨e1, e2⟩ | ⟨ws, n, e1, e2⟩
    · rw [e1] at hr
      obtain ⟨ev, k1, k2, k3⟩ := hr
      exact ⟨ev, k1, by rw [e2]; exact k2, k3⟩
    · rw [e1] at hr
      simp only [e2] at hr
      obtain ⟨ev, k1, k2, k3⟩ := hr
      exact ⟨ev, k1, k2, k3⟩
  have HZ2 := Lib.hid hz2
  clear h hS hb hf HL h5 hb2 hz1 hz2
  unfold circ0 head0 at *
  go_enter Tryd.func30, Tryd.ntmps30
  go_wp2_with fail
  refine HH.out.mono ?_
  rintro e1 w1 ⟨ev, rfl, hat, hch⟩
  have HAT := Lib.hid hat
  obtain ⟨b, hB, rfl, k0, k1⟩ := hat
  have hsz := hch.size
  rw [HZ2.out] at hsz
  have HQ := Lib.hid (HC0.out.chg hch (by simp; omega))
  have HCW := Lib.hid (chg_new HBB.out hch (by omega))
  obtain ⟨c0, c1, c2, cf, cs⟩ := HQ.out
  clear k0 k1 hch
  go_wp2_with fail
  exact bodyPost_ret (v := .tuple #[circV 0 (.slice none 0 0) (.slice none 0 0), .iface 73 (.pointer (some ⟨b, 0, none⟩))]) (gres3 (HQ.out.set3 0 (.slice none 0 0) (.slice none 0 0)) rfl rfl) rfl
    (circ_bad (f := (f, 0)) (set3_at (x := .int .i64 0) (y := .slice none 0 0) (z := .slice none 0 0) HAT.out (by rw [HZ2.out]; omega)) (by rw [HZ2.out]; omega) (set3_chg (x := .int .i64 0) (y := .slice none 0 0) (z := .slice none 0 0) HCW.out (.inr (Nat.le_refl _))))
end Go.Proofs.YtfkodpglgeghlaaDoor

namespace Go.Proofs.YtfkodpglgeghlaaDoor
open Go.RowKit

theorem GR.pq {w w' : World} {B p q k : Nat} {xs : List Int} {v : Value} (h : GR w B p xs k) (hs : w' = w.setCell ⟨q, 2, none⟩ v ∨ w' = w.setCell ⟨q, 1, none⟩ v) (h1 : q ≠ p) (h2 : B ≤ q) : GR w' B p xs k := by
  rcases hs with rfl | rfl
  · exact h.set h1 h2
  · exact h.set h1 h2
theorem H5.low {a b : World} {q B : Nat} {ns : List Int} (h : H5 a q ns) (hb : Below B a b) (hq : q < B) : H5 b q ns := h.chg (chg_up hb) (up_not hq)
theorem H5.set1 {w : World} {q q' o : Nat} {ns : List Int} {v : Value} (h : H5 w q ns) (hq : q ≠ q') : H5 (w.setCell ⟨q', o, none⟩ v) q ns := h.chg (S := [q']) ((Chg.refl _ _).setCell (.inl (by simp)) _) (by simpa using hq)

set_option maxRecDepth 4000 in
set_option maxHeartbeats 16000000 in
theorem gcirc_main {A : Nat → Addr} {B p : Nat} {xs : List Int} {w : World} (h : GR w B p xs 0) (hS : SentsP A p w) (hb : Bts xs) (hn : xs.length ≤ 1000000) (hBw : B ≤ w.heap.size) (ws : List Wd) (n0 : Nat) (ns : List Int) (hl : lineG xs 0 = some (ws, n0)) (hh : headG ws = .got ns) (hn0 : n0 ≤ xs.length)
    (I M O G : Nat) (hI : kn ns 1 = (I : Int)) (hM : kn ns 0 = (M : Int)) (hO : kn ns 3 = (O : Int)) (hG : kn ns 4 = (G : Int)) (hb1 : I ≤ 8000) (hb2 : M ≤ 8000) (hb3 : O ≤ 8000) (hb4 : G ≤ 8000) :
    Calls Tryd.prog 30 #[.pointer (some ⟨p, 0, none⟩)] w (CircP A w p (kontO xs I M G O n0 [])) := by
  have hpl : p < w.heap.size := h.2.2.2.1
  have hBp : B ≤ p := h.2.2.2.2
  have hbb : Below w.heap.size w ((w.alloc circ0).alloc head0) := ((Below.refl w.heap.size w).alloc (Nat.le_refl _) circ0).alloc (by simp) head0
  have hz1 : (w.alloc circ0).heap.size = w.heap.size + 1 := by simp
  have hz2 : ((w.alloc circ0).alloc head0).heap.size = w.heap.size + 2 := by simp
  have HC0 := Lib.hid (show CB ((w.alloc circ0).alloc head0) w.heap.size 0 (.slice none 0 0) (.slice none 0 0) from (CB.start w 0 (.slice none 0 0) (.slice none 0 0) 27).chg (S := []) (Chg.of_below ((Below.refl _ _).alloc (Nat.le_refl _) head0)) (by simp))
  have h5 := head0_h5 (w.alloc circ0)
  rw [hz1] at h5
  have HB0 := Lib.hid hbb
  have HL := Lib.hid (gline_head A B p (w.heap.size + 1) xs 0 _ (h.chg hbb) (fun W hW => hS W (chg_new hbb hW (by omega))) h5 (by omega) (by omega) hb hn)
  have HH : Hid (Calls Tryd.prog 45 #[.pointer (some ⟨p, 0, none⟩), .func (.func 46) #[.pointer (some ⟨w.heap.size + 1, 0, none⟩)] #[]] ((w.alloc circ0).alloc head0) fun r w' => r = .returned .nilIface ∧ GR w' B p xs n0 ∧ H5 w' (w.heap.size + 1) ns ∧ Chg [p, w.heap.size + 1] ((w.alloc circ0).alloc head0) w') := by
    refine HL.out.mono fun r w' hr => ?_
    unfold LineHP at hr
    rw [hl] at hr
    simp only [hh] at hr
    exact ⟨hr.1, hr.2.1, hr.2.2.1, hr.2.2.2.2⟩
  have HOU := Lib.hid (fun last k W (hr : GR W B p xs k) (hW : Chg [p, w.heap.size + 1] ((w.alloc circ0).alloc head0) W) => gout_any A B p last xs k W hr (hS.chg (chg_new hbb hW (by omega))) hb hn)
  have HGA := Lib.hid (fun own k W (hr : GR W B p xs k) (hW : Chg [p, w.heap.size + 1] ((w.alloc circ0).alloc head0) W) (hk : k ≤ xs.length) (h0 : 0 ≤ own) (h1 : own ≤ 1000000) => ggate_any A B p xs k own W hr (hS.chg (chg_new hbb hW (by omega))) hb hn hk h0 h1)
  have HSS := Lib.hid (fun W (hW : Chg [p, w.heap.size + 1] ((w.alloc circ0).alloc head0) W) => (hS.chg (chg_new hbb hW (by omega))).here)
  have HPX := Lib.hid (fun b off n c u k W (hv : RowG (Value.int .u8) 0 W (.slice (some ⟨b, off, none⟩) n c) (xs.drop k)) (hu : RowG (Value.int .u8) 0 W u [99, 10]) (h0 : k < xs.length) => bprefix_any b off n c u (xs.drop k) W hv hu (hb.drop k) (by rw [List.length_drop]; omega))
  have HNM := Lib.hid (And.intro hM (And.intro hI (And.intro hO hG)))
  have HNL := Lib.hid hn0
  have HXL := Lib.hid hn
  have HX : Hid (∃ F, F = kontO xs I M G O n0 []) := ⟨_, rfl⟩
  obtain ⟨F, hF⟩ := HX.out
  have HF1 : Hid (kontO xs I M G (O - 0) n0 [] = F) := by unfold Hid; rw [hF, Nat.sub_zero]
  rw [← hF]
  have HZ0 := Lib.hid hz2
  clear h hS hb HL h5 hbb hz1 hz2 hl hh hI hM hO hG hF HX hn0 hn
  unfold circ0 head0 at *
  go_enter Tryd.func30, Tryd.ntmps30
  go_wp2_with fail
  refine HH.out.mono ?_
  rintro e1 w1 ⟨rfl, hr, hh5, hch⟩
  have hsz := hch.size
  rw [HZ0.out] at hsz
  generalize hW0 : (w.alloc (.cells #[.int .i64 0, .slice none 0 0, .slice none 0 0] 27)).alloc (.cells #[.int .i64 0, .int .i64 0, .int .i64 0, .int .i64 0, .int .i64 0] 78) = W0 at *
  clear HH hW0
  obtain ⟨nM, nI, nO, nG⟩ := HNM.out
  have g0 := hh5.1 0 (by decide)
  have g1 := hh5.1 1 (by decide)
  have g3 := hh5.1 3 (by decide)
  have g4 := hh5.1 4 (by decide)
  rw [nM] at g0
  rw [nI] at g1
  rw [nO] at g3
  rw [nG] at g4
  have hq4l := hh5.2.2
  have HGT : Hid (∀ W, H5 W (w.heap.size + 1) ns → W.cell? ⟨w.heap.size + 1, 4, none⟩ = some (.int .i64 (G : Int)) ∧ w.heap.size + 1 < W.heap.size) := fun W hW => by
    have := hW.1 4 (by decide)
    rw [nG] at this
    exact ⟨this, hW.2.2⟩
  clear nM nI nO nG
  have HBAD : Hid (∀ wr, Chg [p, w.heap.size + 1] W0 wr → ∀ w3 ev (k' : Nat), F = badC (false, (k' : Int)) → AtB A wr.heap.size w3 ev (k' : Int) 0 → Chg [p] wr w3 → CB w3 w.heap.size 0 (.slice none 0 0) (.slice none 0 0) ∧ CircP A w p F (.returned (.tuple #[circV 0 (.slice none 0 0) (.slice none 0 0), ev])) (set3 w3 w.heap.size (.int .i64 0) (.slice none 0 0) (.slice none 0 0)) ∧ ∀ o, CircP A w p F (.returned (.tuple #[circV 0 (.slice none 0 0) (.slice none 0 0), ev])) ((set3 w3 w.heap.size (.int .i64 0) (.slice none 0 0) (.slice none 0 0)).alloc o)) := fun wr hch w3 ev k' hF hat h3 => by
    have hs := hch.size
    rw [HZ0.out] at hs
    refine ⟨(HC0.out.chg hch (by simp; omega)).chg h3 (by simp; omega), ?_, fun o => ?_⟩
    · rw [hF]
      exact circ_bad (f := (false, (k' : Int))) (set3_at hat (by omega)) (by omega) (set3_chg ((chg_new HB0.out hch (by omega)).more h3) (.inr (Nat.le_refl _)))
    · rw [hF]
      exact circ_bad (f := (false, (k' : Int))) ((set3_at hat (by omega)).keep ((Below.refl _ _).alloc (Nat.le_refl _) _)) (by omega) ((set3_chg ((chg_new HB0.out hch (by omega)).more h3) (.inr (Nat.le_refl _))).alloc _)
  have HLI := Lib.hid (fun W => glit_any (M : Int) W (by omega) (by omega))
  have HBA := Lib.hid ((Below.refl w1.heap.size w1).alloc (Nat.le_refl _) (.cells #[.int .i64 (I : Int), .slice none 0 0, .slice none 0 0] 27))
  have HS5 : Hid (GR (w1.alloc (.cells #[.int .i64 (I : Int), .slice none 0 0, .slice none 0 0] 27)) B p xs n0 ∧ H5 (w1.alloc (.cells #[.int .i64 (I : Int), .slice none 0 0, .slice none 0 0] 27)) (w.heap.size + 1) ns ∧ CB (w1.alloc (.cells #[.int .i64 (I : Int), .slice none 0 0, .slice none 0 0] 27)) w1.heap.size I (.slice none 0 0) (.slice none 0 0) ∧ Chg [p, w.heap.size + 1] W0 (w1.alloc (.cells #[.int .i64 (I : Int), .slice none 0 0, .slice none 0 0] 27)) ∧ w1.heap.size + 1 ≤ (w1.alloc (.cells #[.int .i64 (I : Int), .slice none 0 0, .slice none 0 0] 27)).heap.size) :=
    ⟨hr.chg HBA.out, hh5.chg (S := []) (Chg.of_below HBA.out) (by simp), CB.start _ _ _ _ _, hch.alloc _, by simp⟩
  have HQ8 : Hid (w.heap.size + 2 ≤ w1.heap.size) := hsz
  clear hr hh5 hch HBA
  go_wp2_with (go_at_call 47; refine (HLI.out _).mono ?_; rintro e4 w4 ⟨rfl, rfl⟩)
  clear g0 g1 g3 g4 hq4l hsz
  generalize w1.alloc (.cells #[.int .i64 (I : Int), .slice none 0 0, .slice none 0 0] 27) = w5 at *
  generalize w1.heap.size = q8 at *
  go_loopw [30] (fun i wr => ∃ (k pos : Nat) (v : Value) (os : List Int), k ≤ O ∧ i = .int .i64 k ∧ Hid (GR wr B p xs pos ∧ pos ≤ xs.length ∧ H5 wr (w.heap.size + 1) ns ∧ CB wr q8 I (.slice none 0 0) v ∧ wr.ownsRow (q8 + 1) 3 1 v k (os.map (Value.int .i64)) ∧ os.length = k ∧ Chg [p, w.heap.size + 1] W0 wr ∧ q8 + 1 ≤ wr.heap.size ∧ kontO xs I M G (O - k) pos os = F)) (fun i _ => O - (intOf i).toNat)
  case atStart => exact ⟨0, n0, _, [], Nat.zero_le _, rfl, HS5.out.1, HNL.out, HS5.out.2.1, HS5.out.2.2.1, World.ownsRow_nil _ _ _ _, rfl, HS5.out.2.2.2.1, HS5.out.2.2.2.2, HF1.out⟩
  case round =>
    obtain ⟨k, pos, v, os, hk, rfl, HH⟩ := hrel
    clear HS5 HF1 HNL HNM
    obtain ⟨hrd, hps, hh5, hcb, hown, hol, hch, hsw, hfr⟩ := HH.out
    clear HH
    by_cases hlt : k < O
    · have HJ := Lib.hid (HOU.out (2 * (M : Int) + 1) pos wr hrd hch)
      have HB := Lib.hid (HBAD.out wr hch)
      obtain ⟨r, hr5⟩ : ∃ r, O - k = r + 1 := ⟨O - k - 1, by omega⟩
      rw [hr5, kontO] at hfr
      cases hnx : outG xs (2 * (M : Int) + 1) pos with
      | bad q =>
        rw [hnx] at HJ hfr
        simp only at hfr
        have HF := Lib.hid hfr.symm
        clear hfr hnx hr5 hrd hcb hown hol hch hps hh5 HBAD HOU HGA HSS HPX HGT
        go_wp2_with fail
        refine HJ.out.mono ?_
        rintro e3 w3 ⟨ev, rfl, hat, hch3⟩
        obtain ⟨hcb, hpost, _⟩ := HB.out w3 ev q HF.out hat hch3
        have HCB := Lib.hid hcb
        have HPO := Lib.hid hpost
        obtain ⟨c0, c1, c2, cf, cs⟩ := hcb
        obtain ⟨b, hB, rfl, k0, k1⟩ := hat
        clear k0 k1 hch3 hpost
        go_wp2_with fail
        exact bodyPost_ret (v := .tuple #[circV 0 (.slice none 0 0) (.slice none 0 0), .iface 73 (.pointer (some ⟨b, 0, none⟩))]) (gres3 (HCB.out.set3 0 (.slice none 0 0) (.slice none 0 0)) rfl rfl) rfl HPO.out
      | got yn pos' =>
        rw [hnx] at HJ hfr
        simp only at hfr
        obtain ⟨_, _, _, hps'⟩ := outG_got hnx
        obtain ⟨ao, co, rfl, hco1, hco⟩ := own_shape hown
        unfold maxLen at hco
        have HA : Hid (∀ w3, GR w3 B p xs pos' → Chg [p] wr w3 → w3.cell? ⟨q8, 2, none⟩ = some (.slice ao k co) ∧ q8 < w3.heap.size ∧ w3.ownsRow (q8 + 1) 3 1 (.slice ao k co) k (os.map (Value.int .i64)) ∧ q8 + 1 ≤ w3.heap.size ∧
            ∀ v' w6, w6.ownsRow (q8 + 1) 3 1 v' (k + 1) ((os ++ [yn]).map (Value.int .i64)) → App (q8 + 1) w3 w6 (.slice ao k co) v' → (w6.cell? ⟨q8, 2, none⟩ = some (.slice ao k co) ∧ (∀ o, w6.frozen? ⟨q8, o, none⟩ = false) ∧ q8 < w6.heap.size) ∧
              ∃ (k' pos2 : Nat) (v'' : Value) (os' : List Int), k' ≤ O ∧ Value.int .i64 ((k : Int) + 1) = .int .i64 k' ∧ Hid (GR (w6.setCell ⟨q8, 2, none⟩ v') B p xs pos2 ∧ pos2 ≤ xs.length ∧ H5 (w6.setCell ⟨q8, 2, none⟩ v') (w.heap.size + 1) ns ∧ CB (w6.setCell ⟨q8, 2, none⟩ v') q8 I (.slice none 0 0) v'' ∧ (w6.setCell ⟨q8, 2, none⟩ v').ownsRow (q8 + 1) 3 1 v'' k' (os'.map (Value.int .i64)) ∧ os'.length = k' ∧ Chg [p, w.heap.size + 1] W0 (w6.setCell ⟨q8, 2, none⟩ v') ∧ q8 + 1 ≤ (w6.setCell ⟨q8, 2, none⟩ v').heap.size ∧ kontO xs I M G (O - k') pos2 os' = F)) := fun w3 hr3 h3 => by
          have z1 := HQ8.out
          have hz := HZ0.out
          have hqp : q8 ∉ [p] := by simp; omega
          have hcb3 := hcb.chg h3 hqp
          have hs3 := h3.size
          have ho3 := own_chg hown h3 (fun j hj => by have := (hown.lt j hj).1; simp; omega)
          refine ⟨hcb3.2.2.1, hcb3.2.2.2.2, ho3, by omega, fun v' w6 hown6 hap => ?_⟩
          have hcb6 := hcb3.low hap.below (Nat.lt_succ_self _)
          refine ⟨⟨hcb6.2.2.1, hcb6.2.2.2.1, hcb6.2.2.2.2⟩, k + 1, pos', v', os ++ [yn], by omega, by simp, ?_, hps', ?_, hcb6.set2 v', ?_, by simp [hol], ?_, ?_, ?_⟩
          · exact (hr3.low hap.below (by omega)).set (by omega) (by omega)
          · exact ((hh5.chg h3 (by simp; omega)).low hap.below (by omega)).set1 (by omega)
          · exact ownsRow_setCell_below hown6 (a := ⟨q8, 2, none⟩) (Nat.lt_succ_self _) _
          · exact (((hch.next (h3.sub (by simp))).low hap.below (by omega)).setCell (.inr (by show W0.heap.size ≤ q8; omega)) _)
          · have := hap.below.size; simp at this ⊢; omega
          · rw [show O - (k + 1) = r by omega]; exact hfr
        clear hfr hnx hr5 hrd hcb hown hol hch hps hps' hh5 HBAD HOU HGA HSS HPX HGT HB
        go_wp2_with fail
        refine HJ.out.mono ?_
        rintro e3 w3 ⟨rfl, hr3, hch3⟩
        obtain ⟨x2, xs2, hown4, hs4, HR4⟩ := HA.out w3 hr3 hch3
        have HRR := Lib.hid HR4
        have HO4 := Lib.hid hown4
        clear hr3 hch3 HR4 hown4
        go_wp2_with (at_builtin; refine wpList_appV 22 3 (.int .i64 0) 8 Tryd.underlying22 infoInt rfl (by decide) rfl _ _ rfl w3 (q8 + 1) _ k (os.map (Value.int .i64)) (.int .i64 yn) rfl HO4.out hs4 (by omega) w3.heap.size rfl rfl rfl ?_; intro v' w6 hown6 hap; obtain ⟨⟨e1, ef, es⟩, hrel6⟩ := HRR.out v' w6 (by simpa using hown6) hap; obtain ⟨a', c', rfl, _, _⟩ := own_shape hown6; clear hown6 hap)
        go_roundw
        case rel => exact hrel6
        case measure => simp [intOf]; omega
    · have hkO : O = k := by omega
      subst hkO
      rename World => wz
      rw [Nat.sub_self, kontO] at hfr
      obtain ⟨av, cv, rfl, hcv1, hcv⟩ := own_shape hown
      unfold maxLen at hcv
      obtain ⟨g4, gl⟩ := HGT.out wz hh5
      have HS6 : Hid (GR wz B p xs pos ∧ pos ≤ xs.length ∧ CB wz q8 I (.slice none 0 0) (.slice av O cv) ∧ wz.ownsRow (q8 + 1) 3 1 (.slice av O cv) O (os.map (Value.int .i64)) ∧ Chg [p, w.heap.size + 1] W0 wz ∧ kontG xs I G 0 pos [] os = F ∧ ∀ k, (Value.slice av O cv).ownBlock = some k → k < wz.heap.size) := ⟨hrd, hps, hcb, hown, hch, hfr, fun k hk => (hown.lt k hk).2⟩
      clear hrd hcb hown hol hch hfr hk hlt hh5 hps HOU HGT
      go_wp2_with fail
      clear g4 gl
      generalize hB3 : wz.heap.size = B3 at *
      go_loopw [51] (fun i wr => ∃ (k pos : Nat) (u : Value) (ps : List (Int × Int)), k ≤ G ∧ i = .int .i64 k ∧ Hid (GR wr B p xs pos ∧ pos ≤ xs.length ∧ CB wr q8 I u (.slice av O cv) ∧ wr.ownsRow B3 48 2 u k (ps.flatMap pcells) ∧ ps.length = k ∧ wr.ownsRow (q8 + 1) 3 1 (.slice av O cv) O (os.map (Value.int .i64)) ∧ Chg [p, w.heap.size + 1] W0 wr ∧ B3 ≤ wr.heap.size ∧ kontG xs I (G - k) k pos ps os = F)) (fun i _ => G - (intOf i).toNat)
      case atStart => exact ⟨0, pos, _, [], Nat.zero_le _, rfl, HS6.out.1, HS6.out.2.1, HS6.out.2.2.1, World.ownsRow_nil _ _ _ _, rfl, HS6.out.2.2.2.1, HS6.out.2.2.2.2.1, by rw [hB3]; exact Nat.le_refl _, by rw [Nat.sub_zero]; exact HS6.out.2.2.2.2.2.1⟩
      case round =>
        obtain ⟨k, pos', u, ps, hk, rfl, HH⟩ := hrel
        have HVB : Hid (∀ k, (Value.slice av O cv).ownBlock = some k → k < B3) := HS6.out.2.2.2.2.2.2
        have HB38 : Hid (q8 + 1 ≤ B3) := by unfold Hid; omega
        clear HS6
        obtain ⟨hrd, hps, hcb, hown, hol, hov, hch, hsw, hfr⟩ := HH.out
        clear HH
        by_cases hlt : k < G
        · have HJ := Lib.hid (HGA.out (2 * ((I : Int) + (k : Int) + 1)) pos' wr hrd hch hps (by omega) (by omega))
          have HB := Lib.hid (HBAD.out wr hch)
          have HLK := Lib.hid (fun W => glit_any ((I : Int) + (k : Int) + 1) W (by omega) (by omega))
          obtain ⟨r, hr5⟩ : ∃ r, G - k = r + 1 := ⟨G - k - 1, by omega⟩
          rw [hr5, kontG] at hfr
          have HCB := Lib.hid hcb
          obtain ⟨d0, d1, d2, d3, d4⟩ := hcb
          cases hnx : gateG xs (2 * ((I : Int) + (k : Int) + 1)) pos' with
          | bad q =>
            rw [hnx] at HJ hfr
            simp only at hfr
            have HF := Lib.hid hfr.symm
            clear hfr hnx hr5 hrd hown hol hov hch hps HBAD HGA HSS HPX HCB
            go_wp2_with (go_at_call 47; refine (HLK.out _).mono ?_; rintro e4 w4 ⟨rfl, rfl⟩)
            go_at_call 49
            refine HJ.out.mono ?_
            rintro e3 w3 ⟨ev, rfl, hat, hch3⟩
            obtain ⟨hcb, _, hpost⟩ := HB.out w3 ev q HF.out hat hch3
            have HCB := Lib.hid hcb
            have HPO := Lib.hid hpost
            obtain ⟨c0, c1, c2, cf, cs⟩ := hcb
            obtain ⟨b, hB, rfl, k0, k1⟩ := hat
            clear k0 k1 hch3 hpost d0 d1 d2 d3
            unfold cntV
            go_wp2_with fail
            exact bodyPost_ret (v := .tuple #[circV 0 (.slice none 0 0) (.slice none 0 0), .iface 73 (.pointer (some ⟨b, 0, none⟩))]) (gres3 ((HCB.out.set3 0 (.slice none 0 0) (.slice none 0 0)).chg (S := []) (Chg.of_below ((Below.refl _ _).alloc (Nat.le_refl _) _)) (by simp)) rfl rfl) rfl (HPO.out _)
          | got y pos2 =>
            rw [hnx] at HJ hfr
            simp only at hfr
            have hps2 := gateG_got hnx hps
            obtain ⟨yn, yp⟩ := y
            obtain ⟨ao, co, rfl, hco1, hco⟩ := row_shape hown
            unfold maxLen at hco
            have HA : Hid (∀ w3, GR w3 B p xs pos2 → Chg [p] wr w3 → w3.cell? ⟨q8, 1, none⟩ = some (.slice ao k co) ∧ q8 < w3.heap.size ∧ (w3.alloc (.cells #[.int .i64 yn, .int .i64 yp] 48)).ownsRow B3 48 2 (.slice ao k co) k (ps.flatMap pcells) ∧ B3 ≤ (w3.alloc (.cells #[.int .i64 yn, .int .i64 yp] 48)).heap.size ∧
                ∀ v' w6, w6.ownsRow B3 48 2 v' (k + 1) (ps.flatMap pcells ++ pcells (yn, yp)) → App B3 (w3.alloc (.cells #[.int .i64 yn, .int .i64 yp] 48)) w6 (.slice ao k co) v' → (w6.cell? ⟨q8, 1, none⟩ = some (.slice ao k co) ∧ (∀ o, w6.frozen? ⟨q8, o, none⟩ = false) ∧ q8 < w6.heap.size) ∧
                  ∃ (k' pos' : Nat) (u'' : Value) (ps' : List (Int × Int)), k' ≤ G ∧ Value.int .i64 ((k : Int) + 1) = .int .i64 k' ∧ Hid (GR (w6.setCell ⟨q8, 1, none⟩ v') B p xs pos' ∧ pos' ≤ xs.length ∧ CB (w6.setCell ⟨q8, 1, none⟩ v') q8 I u'' (.slice av O cv) ∧ (w6.setCell ⟨q8, 1, none⟩ v').ownsRow B3 48 2 u'' k' (ps'.flatMap pcells) ∧ ps'.length = k' ∧ (w6.setCell ⟨q8, 1, none⟩ v').ownsRow (q8 + 1) 3 1 (.slice av O cv) O (os.map (Value.int .i64)) ∧ Chg [p, w.heap.size + 1] W0 (w6.setCell ⟨q8, 1, none⟩ v') ∧ B3 ≤ (w6.setCell ⟨q8, 1, none⟩ v').heap.size ∧ kontG xs I (G - k') k' pos' ps' os = F)) := fun w3 hr3 h3 => by
              have z1 := HQ8.out
              have hz := HZ0.out
              have h38 := HB38.out
              have hqp : q8 ∉ [p] := by simp; omega
              have hal := (Below.refl _ w3).alloc (Nat.le_refl _) (.cells #[.int .i64 yn, .int .i64 yp] 48)
              have hcb3 := HCB.out.chg h3 hqp
              have hcb4 := hcb3.chg (S := []) (Chg.of_below hal) (by simp)
              have hs3 := h3.size
              have ho3 := own_chg hown h3 (fun j hj => by have := (hown.lt j hj).1; simp; omega)
              have hv3 := own_chg hov h3 (fun j hj => by have := (hov.lt j hj).1; simp; omega)
              refine ⟨hcb3.2.1, hcb3.2.2.2.2, own_keep ho3 hal, by simp; omega, fun v' w6 hown6 hap => ?_⟩
              have hcb6 := hcb4.low hap.below (by omega)
              refine ⟨⟨hcb6.2.1, hcb6.2.2.2.1, hcb6.2.2.2.2⟩, k + 1, pos2, v', ps ++ [(yn, yp)], by omega, by simp, ?_, hps2, hcb6.set1 v', ?_, by simp [hol], ?_, ?_, ?_, ?_⟩
              · exact (((hr3.chg hal).low hap.below (by omega)).set (by omega) (by omega))
              · exact ownsRow_setCell_below (by simpa using hown6) (a := ⟨q8, 1, none⟩) (by show q8 < B3; omega) _
              · exact ownsRow_setCell_below (own_low (own_keep hv3 hal) hap.below HVB.out) (a := ⟨q8, 1, none⟩) (Nat.lt_succ_self _) _
              · exact ((((hch.next (h3.sub (by simp))).alloc _).low hap.below (by omega)).setCell (.inr (by show W0.heap.size ≤ q8; omega)) _)
              · have := hap.below.size; simp at this ⊢; omega
              · rw [show G - (k + 1) = r by omega]; exact hfr
            clear hfr hnx hr5 hrd hown hol hov hch hps hps2 HBAD HGA HSS HPX HB HCB
            go_wp2_with (go_at_call 47; refine (HLK.out _).mono ?_; rintro e4 w4 ⟨rfl, rfl⟩)
            go_at_call 49
            refine HJ.out.mono ?_
            rintro e3 w3 ⟨rfl, hr3, hch3⟩
            obtain ⟨x2, xs2, hown4, hs4, HR4⟩ := HA.out w3 hr3 hch3
            have HRR := Lib.hid HR4
            have HO4 := Lib.hid hown4
            clear hr3 hch3 HR4 hown4 d0 d1 d2 d3
            unfold cntV
            go_wp2_with (at_builtin; refine wpList_appS 25 48 _ 2 16 Tryd.underlying25 infoA rfl (by decide) (by decide) rfl _ _ rfl (w3.alloc (.cells #[.int .i64 yn, .int .i64 yp] 48)) B3 _ k (ps.flatMap pcells) (pcells (yn, yp)) (pcells_one _) rfl HO4.out hs4 (by omega) (w3.heap.size + 1) (by simp) rfl rfl ?_; intro v' w6 hown6 hap; obtain ⟨⟨e1, ef, es⟩, hrel6⟩ := HRR.out v' w6 hown6 hap; obtain ⟨a', c', rfl, _, _⟩ := row_shape hown6; clear hown6 hap)
            go_roundw
            case rel => exact hrel6
            case measure => simp [intOf]; omega
        · have hkG : G = k := by omega
          subst hkG
          rw [Nat.sub_self, kontG] at hfr
          obtain ⟨ao, co, rfl, hco1, hco⟩ := row_shape hown
          have HEN : Hid (∀ w3, Below wr.heap.size wr w3 → CB w3 q8 I (.slice ao G co) (.slice av O cv) ∧ CB w3 w.heap.size 0 (.slice none 0 0) (.slice none 0 0) ∧ (Sents w3 A ∧ w3.cell? ⟨p, 1, none⟩ = some (.int .i64 (pos' : Int)) ∧ p < w3.heap.size) ∧ (F = (((I : Int), ps, os), none) → CircP A w p F (.returned (.tuple #[circV I (.slice ao G co) (.slice av O cv), .nilIface])) (set3 w3 w.heap.size (.int .i64 I) (.slice ao G co) (.slice av O cv))) ∧
              ∀ ev w4, F = badC (false, (pos' : Int)) → AtB A w3.heap.size w4 ev (pos' : Int) 0 → Below w3.heap.size w3 w4 → CB w4 w.heap.size 0 (.slice none 0 0) (.slice none 0 0) ∧ CircP A w p F (.returned (.tuple #[circV 0 (.slice none 0 0) (.slice none 0 0), ev])) (set3 w4 w.heap.size (.int .i64 0) (.slice none 0 0) (.slice none 0 0))) := fun w3 h3 => by
            have z1 := HQ8.out
            have h38 := HB38.out
            have hz := HZ0.out
            have hcw := chg_new HB0.out hch (by omega)
            have hc3 : Chg [p] w w3 := hcw.still h3
            have ho3 := own_keep hown h3
            have hv3 := own_keep hov h3
            have hs0 := hch.size
            have hs3 := h3.size
            refine ⟨hcb.chg (S := []) (Chg.of_below h3) (by simp), (HC0.out.chg hch (by simp; omega)).chg (S := []) (Chg.of_below h3) (by simp), ⟨HSS.out _ (hch.next (Chg.of_below h3)), (hrd.chg h3).2.1, (hrd.chg h3).2.2.2.1⟩, fun hF => ?_, fun ev w4 hF hat h4 => ?_⟩
            · rw [hF]
              refine ⟨_, _, .nilIface, rfl, ?_, ?_, rfl, set3_chg hc3 (.inr (Nat.le_refl _))⟩
              · have := set3_own (x := .int .i64 I) (y := .slice ao G co) (z := .slice av O cv) ho3 (q := w.heap.size) (by omega)
                rw [show ps.length = G from hol]
                exact own_base this (by omega)
              · have := set3_own (x := .int .i64 I) (y := .slice ao G co) (z := .slice av O cv) hv3 (q := w.heap.size) (by omega)
                have hol : os.length = O := by simpa using hov.1
                rw [hol]
                exact own_base this (by omega)
            · refine ⟨((HC0.out.chg hch (by simp; omega)).chg (S := []) (Chg.of_below h3) (by simp)).chg (S := []) (Chg.of_below h4) (by simp), ?_⟩
              rw [hF]
              exact circ_bad (f := (false, (pos' : Int))) (set3_at hat (by omega)) (by omega) (set3_chg (hc3.still h4) (.inr (Nat.le_refl _)))
          obtain ⟨at', ct, t0, hrow, htc, htm⟩ := hrd.row
          unfold maxLen at htm
          have t1 := hrd.2.1
          unfold kontT tailG at hfr
          clear hrd hown hol hov hch hcb HBAD HGA HSS HVB
          obtain ⟨⟨f0, f1, f2, ff, fs⟩, ⟨e0, e1, e2, ef, es⟩, ⟨hsen, _, hpw⟩, _, _⟩ := HEN.out wr (Below.refl _ _)
          by_cases hpx : pos' < xs.length
          · have hck : ¬ ct = pos' := by omega
            obtain ⟨b, off, rfl⟩ : ∃ b off, at' = some ⟨b, off, none⟩ := by
              obtain ⟨a', c', e, _, _, h3⟩ := hrow
              injection e with e1 _ _
              obtain ⟨b, off, e2, _⟩ := h3.resolve_left (by omega)
              exact ⟨b, off, by rw [e1, e2]⟩
            have HRD := Lib.hid (rowG_drop hrow pos' hpx)
            have hlp : (0 : Int) < ((xs.length - pos' : Nat) : Int) := by omega
            have hzq : ∀ q, (wr.drewN q).heap.size = wr.heap.size := fun q => by simp
            have kc : ∀ q, (convert 23 23 (.slice (some ⟨wr.heap.size, 0, none⟩) 2 2)).run Tryd.prog ((wr.drewN q).alloc (.cells #[.int .u8 99, .int .u8 10] 5)) = .ok (.slice (some ⟨wr.heap.size, 0, none⟩) 2 2) ((wr.drewN q).alloc (.cells #[.int .u8 99, .int .u8 10] 5 (2, 3))) := fun q => by
              have := Lib.run_convert_bytes_const (P := Tryd.prog) (wr.drewN q) 23 5 #[.int .u8 99, .int .u8 10] 2 2 Tryd.underlying23 Tryd.underlying5
              rw [hzq q] at this
              exact this
            have HPR : Hid (∀ q, Calls Tryd.prog 50 #[.slice (some ⟨b, off + pos', none⟩) (xs.length - pos') (ct - pos'), .slice (some ⟨wr.heap.size, 0, none⟩) 2 2] ((wr.drewN q).alloc (.cells #[.int .u8 99, .int .u8 10] 5 (2, 3))) fun e w' => e = .returned (.bool (decide ((xs.drop pos').take 2 = [99, 10]))) ∧ Below wr.heap.size wr w') := fun q => by
              have hbq : Below wr.heap.size wr ((wr.drewN q).alloc (.cells #[.int .u8 99, .int .u8 10] 5 (2, 3))) := (below_drewN (Below.refl _ _) q).alloc (by simp) _
              refine (HPX.out b (off + pos') (xs.length - pos') (ct - pos') (.slice (some ⟨wr.heap.size, 0, none⟩) 2 2) pos' ((wr.drewN q).alloc (.cells #[.int .u8 99, .int .u8 10] 5 (2, 3))) (HRD.out.keep ((below_drewN (Below.refl _ _) q).alloc (by simp) _)) ⟨_, _, rfl, Nat.le_refl _, by unfold maxLen; omega, .inr ⟨wr.heap.size, 0, rfl, by simp, fun i hi => ?_⟩⟩ hpx).mono ?_
              rotate_left
              · rintro e w' ⟨h1, rfl⟩
                exact ⟨h1, hbq⟩
              rw [Nat.zero_add, ← hzq q, World.cell?_alloc_mark]
              have hi2 : i < 2 := hi
              rcases (by omega : i = 0 ∨ i = 1) with rfl | rfl <;> rfl
            clear hrow HPX HRD
            by_cases htk : (xs.drop pos').take 2 = [99, 10]
            · rw [if_neg (fun h => h.2 htk)] at hfr
              have HF := Lib.hid hfr.symm
              rw [decide_eq_true htk] at HPR
              clear hfr htk
              generalize xs.length = n at *
              go_wp2_with fail
              go_quiet (fail)
              clear f0 f1 f2 ff fs e0 e1 e2 ef es
              go_wp2_with (go_at_call 50; refine (HPR.out _).mono ?_; rintro e2 w2 ⟨rfl, hb2⟩; obtain ⟨hc8, hc0, hsn, hok, hbd⟩ := HEN.out _ hb2; have HCR := Lib.hid hc0; have HOK := Lib.hid hok; have HBD := Lib.hid hbd; have hsc := hsn.1.c0; have hsp := hsn.2.1; have hpw2 := hsn.2.2; have hsl : 1 < w2.heap.size := World.block_lt_of_cell? w2 _ hsc; obtain ⟨f0, f1, f2, ff, fs⟩ := hc8; obtain ⟨e0, e1, e2, ef, es⟩ := hc0; clear hok hbd hb2 hsn)
              exact bodyPost_ret (v := .tuple #[circV I (.slice ao G co) (.slice av O cv), .nilIface]) (gres3 (HCR.out.set3 I (.slice ao G co) (.slice av O cv)) rfl rfl) rfl (HOK.out HF.out)
            · rw [if_pos ⟨hpx, htk⟩] at hfr
              have HF := Lib.hid hfr.symm
              rw [decide_eq_false htk] at HPR
              clear hfr htk
              generalize xs.length = n at *
              go_wp2_with fail
              go_quiet (fail)
              clear f0 f1 f2 ff fs e0 e1 e2 ef es
              go_wp2_with (go_at_call 50; refine (HPR.out _).mono ?_; rintro e2 w2 ⟨rfl, hb2⟩; obtain ⟨hc8, hc0, hsn, hok, hbd⟩ := HEN.out _ hb2; have HCR := Lib.hid hc0; have HOK := Lib.hid hok; have HBD := Lib.hid hbd; have hsc := hsn.1.c0; have hsp := hsn.2.1; have hpw2 := hsn.2.2; have hsl : 1 < w2.heap.size := World.block_lt_of_cell? w2 _ hsc; obtain ⟨f0, f1, f2, ff, fs⟩ := hc8; obtain ⟨e0, e1, e2, ef, es⟩ := hc0; clear hok hbd hb2 hsn)
              have hz2 : 0 < w2.heap.size := by omega
              have HTA : Hid (∀ W, Below w2.heap.size w2 W → Calls Tryd.prog 29 #[.int .i64 (pos' : Int), .iface 135 (.pointer (some (A 0)))] W fun e w' => ∃ ev, e = .returned ev ∧ (w'.cell? ⟨w.heap.size, 0, none⟩ = some (.int .i64 0) ∧ w'.cell? ⟨w.heap.size, 1, none⟩ = some (.slice none 0 0) ∧ w'.cell? ⟨w.heap.size, 2, none⟩ = some (.slice none 0 0) ∧ (∀ o, w'.frozen? ⟨w.heap.size, o, none⟩ = false) ∧ w.heap.size < w'.heap.size) ∧ Hid (CB w' w.heap.size 0 (.slice none 0 0) (.slice none 0 0) ∧ CircP A w p F (.returned (.tuple #[circV 0 (.slice none 0 0) (.slice none 0 0), ev])) (set3 w' w.heap.size (.int .i64 0) (.slice none 0 0) (.slice none 0 0)))) := fun W hW =>
                (gat_on A pos' 0 w2 W hW.size).mono fun _ w' ⟨ev, h1, h2, h3⟩ => by
                  have hh := HBD.out ev w' HF.out h2 (hW.trans (h3.mono hW.size))
                  exact ⟨ev, h1, hh.1, hh⟩
              go_region_with (go_at_call 29; refine (HTA.out _ (by first | exact Below.refl _ _ | exact (Below.refl _ _).drew)).mono ?_; rintro e3 w3 ⟨ev, rfl, ⟨y0, y1, y2, yf, ys⟩, HYY⟩)
              all_goals
                go_wp2_with fail
                exact bodyPost_ret (v := .tuple #[circV 0 (.slice none 0 0) (.slice none 0 0), ev]) (gres3 (HYY.out.1.set3 0 (.slice none 0 0) (.slice none 0 0)) rfl rfl) rfl HYY.out.2
          · rw [if_neg (fun h => hpx h.1)] at hfr
            have HF := Lib.hid hfr.symm
            have hpe : pos' = xs.length := by omega
            subst hpe
            clear hfr HPX hrow hps hpx
            generalize xs.length = n at *
            cases at' <;> by_cases hck : ct = n
            · subst hck
              go_wp2_with fail
              go_quiet (fail)
              obtain ⟨hc8, hc0, _, hok, _⟩ := HEN.out (wr.drewN nq) (below_drewN (Below.refl _ _) nq)
              have HCR := Lib.hid hc0
              have HPO := Lib.hid (hok HF.out)
              clear hok hc8 hc0
              go_wp2_with fail
              exact bodyPost_ret (v := .tuple #[circV I (.slice ao G co) (.slice av O cv), .nilIface]) (gres3 (HCR.out.set3 I (.slice ao G co) (.slice av O cv)) rfl rfl) rfl HPO.out
            · skip
              go_wp2_with fail
              go_quiet (fail)
              obtain ⟨hc8, hc0, _, hok, _⟩ := HEN.out (wr.drewN nq) (below_drewN (Below.refl _ _) nq)
              have HCR := Lib.hid hc0
              have HPO := Lib.hid (hok HF.out)
              clear hok hc8 hc0
              go_wp2_with fail
              exact bodyPost_ret (v := .tuple #[circV I (.slice ao G co) (.slice av O cv), .nilIface]) (gres3 (HCR.out.set3 I (.slice ao G co) (.slice av O cv)) rfl rfl) rfl HPO.out
            · subst hck
              go_wp2_with fail
              go_quiet (fail)
              obtain ⟨hc8, hc0, _, hok, _⟩ := HEN.out (wr.drewN nq) (below_drewN (Below.refl _ _) nq)
              have HCR := Lib.hid hc0
              have HPO := Lib.hid (hok HF.out)
              clear hok hc8 hc0
              go_wp2_with fail
              exact bodyPost_ret (v := .tuple #[circV I (.slice ao G co) (.slice av O cv), .nilIface]) (gres3 (HCR.out.set3 I (.slice ao G co) (.slice av O cv)) rfl rfl) rfl HPO.out
            · skip
              go_wp2_with fail
              go_quiet (fail)
              obtain ⟨hc8, hc0, _, hok, _⟩ := HEN.out (wr.drewN nq) (below_drewN (Below.refl _ _) nq)
              have HCR := Lib.hid hc0
              have HPO := Lib.hid (hok HF.out)
              clear hok hc8 hc0
              go_wp2_with fail
              exact bodyPost_ret (v := .tuple #[circV I (.slice ao G co) (.slice av O cv), .nilIface]) (gres3 (HCR.out.set3 I (.slice ao G co) (.slice av O cv)) rfl rfl) rfl HPO.out
end Go.Proofs.YtfkodpglgeghlaaDoor

namespace Go.Proofs.YtfkodpglgeghlaaDoor
open Go.RowKit

theorem numsU_bd : ∀ (ws : List Wd) (acc ns : List Int), numsU ws acc = some ns → (∀ j, 0 ≤ kn acc j) → ∀ j, 0 ≤ kn ns j
  | [], acc, ns, h, ha => by
    unfold numsU at h
    injection h with h
    subst h; exact ha
  | x :: ws, acc, ns, h, ha => by
    unfold numsU at h
    cases hu : numU x.1 with
    | none => rw [hu] at h; cases h
    | some n =>
      rw [hu] at h
      refine numsU_bd ws _ ns h fun j => ?_
      rw [kn_snoc]
      split
      · exact (numU_bd hu).1
      · exact ha j
theorem headG_got {ws : List Wd} {ns : List Int} (h : headG ws = .got ns) : (∀ j, 0 ≤ kn ns j) ∧ kn ns 1 + kn ns 4 ≤ 8000 ∧ kn ns 3 ≤ 8000 ∧ kn ns 0 = kn ns 1 + kn ns 4 := by
  unfold headG at h
  split at h
  · cases h
  · cases hn : numsU ws.tail [] with
    | none => rw [hn] at h; cases h
    | some ms =>
      rw [hn] at h
      dsimp only at h
      cases hc : checkG ms with
      | some f => rw [hc] at h; cases h
      | none =>
        rw [hc] at h
        injection h with h
        subst h
        have hb := numsU_bd _ _ _ hn (fun j => by simp [kn])
        unfold checkG at hc
        split at hc
        · cases hc
        · split at hc
          · cases hc
          · exact ⟨hb, by omega, by omega, by omega⟩
theorem gcirc_any {A : Nat → Addr} {B p : Nat} {xs : List Int} {w : World} (h : GR w B p xs 0) (hS : SentsP A p w) (hb : Bts xs) (hn : xs.length ≤ 1000000) (hBw : B ≤ w.heap.size) :
    Calls Tryd.prog 30 #[.pointer (some ⟨p, 0, none⟩)] w (CircP A w p (readG xs)) := by
  unfold readG
  cases hl : lineG xs 0 with
  | none => exact gcirc_head h hS hb hn hBw false (.inl ⟨hl, rfl⟩)
  | some r =>
    obtain ⟨ws, n⟩ := r
    dsimp only
    cases hh : headG ws with
    | bad f => exact gcirc_head h hS hb hn hBw f (.inr ⟨ws, n, hl, hh⟩)
    | got ns =>
      obtain ⟨h1, h2, h3, h4⟩ := headG_got hh
      have b0 := h1 0
      have b1 := h1 1
      have b3 := h1 3
      have b4 := h1 4
      have hnl : n ≤ xs.length := by
        unfold lineG at hl
        cases h' : lnAt xs ((0 : Nat) : Int) with
        | none => rw [h'] at hl; cases hl
        | some s =>
          rw [h'] at hl
          injection hl with hl
          injection hl with _ hl
          rw [← hl]
          exact (lnAt_len h').2.1
      exact gcirc_main h hS hb hn hBw ws n ns hl hh hnl (kn ns 1).toNat (kn ns 0).toNat (kn ns 3).toNat (kn ns 4).toNat (by omega) (by omega) (by omega) (by omega) (by omega) (by omega) (by omega) (by omega)
theorem gres3r {W : World} {q : Nat} {n : Int} {u v ev : Value} {tmps : Array Value} (h : CB W q n u v) (h2 : tmps.getD 2 undef = .pointer (some ⟨q, 0, none⟩)) (h3 : tmps.getD 3 undef = ev) : (results Tryd.f12 tmps).run Tryd.prog W = .ok (.tuple #[circV n u v, ev]) W := by
  obtain ⟨c0, c1, c2, _, _⟩ := h
  rw [Array.getD_eq_getD_getElem?] at h2 h3
  simp [results, Tryd.results12, go_sem, circV, h2, h3, c0, c1, c2]
/-- The reader that Read makes. -/
theorem gr_start {w W : World} {v : Value} {xs : List Int} (T : TypeId) (h : RowG (Value.int .u8) 0 w v xs) (hb : Below w.heap.size w W) : GR (W.alloc (.cells #[v, .int .i64 0] T)) w.heap.size W.heap.size xs 0 := by
  obtain ⟨a, c, rfl, h1, h2, h3⟩ := h
  have hb2 := hb.alloc hb.size (.cells #[.slice a xs.length c, .int .i64 0] T)
  refine ⟨⟨a, c, ?_, h1, h2, ?_⟩, ?_, fun o => World.frozen?_alloc_at _ _ _ _ (by simp), by simp, hb.size⟩
  · rw [World.cell?_alloc_at _ _ _ _ (by simp)]; rfl
  · rcases h3 with h3 | ⟨b, off, e, hlt, hc⟩
    · exact .inl h3
    · exact .inr ⟨b, off, e, hlt, fun i hi => (hb2.cell (p := ⟨b, off + i, none⟩) hlt).trans (hc i hi)⟩
  · rw [World.cell?_alloc_at _ _ _ _ (by simp)]; rfl

set_option maxHeartbeats 4000000 in
theorem greadA_any (A : Nat → Addr) (v : Value) (xs : List Int) (w : World) (hS : Sents w A) (hv : RowG (Value.int .u8) 0 w v xs) (hb : Bts xs) (hn : xs.length ≤ 1000000) :
    Calls Tryd.prog 12 #[v] w (ReadP A w (readG xs)) := by
  have hba := (Below.refl w.heap.size w).alloc (Nat.le_refl _) circ0
  have HBA := Lib.hid hba
  have HC0 := Lib.hid (CB.start w 0 (.slice none 0 0) (.slice none 0 0) 27)
  have hz1 : (w.alloc circ0).heap.size = w.heap.size + 1 := by simp
  have hgr := gr_start 57 hv hba
  rw [hz1] at hgr
  have hbw2 : Below w.heap.size w ((w.alloc circ0).alloc (.cells #[v, .int .i64 0] 57)) := hba.alloc (by rw [hz1]; omega) _
  have hsz : ((w.alloc circ0).alloc (.cells #[v, .int .i64 0] 57)).heap.size = w.heap.size + 2 := by simp
  have HCI := Lib.hid (gcirc_any hgr (SentsP.of hS hbw2 (by omega)) hb hn (by omega))
  have HQ := Lib.hid (show CB ((w.alloc circ0).alloc (.cells #[v, .int .i64 0] 57)) w.heap.size 0 (.slice none 0 0) (.slice none 0 0) from HC0.out.chg (S := []) (Chg.of_below ((Below.refl _ _).alloc (Nat.le_refl _) _)) (by simp))
  have HBW := Lib.hid hbw2
  have HSZ := Lib.hid hsz
  obtain ⟨a, cap, rfl, hcl, hcm, _⟩ := hv
  unfold maxLen at hcm
  clear hS hb hgr hbw2 hsz hba hz1
  generalize readG xs = R at *
  generalize xs.length = n at *
  have hnl : decide ((1048576 : Int) < n) = false := by simp; omega
  unfold circ0 at *
  go_enter Tryd.func12, Tryd.ntmps12
  go_wp2_with fail
  refine HCI.out.mono ?_
  rintro e3 w3 ⟨u3, v3, ev, rfl, hu3, hv3, hO, hch⟩
  have hs3 := hch.size
  rw [HSZ.out] at hs3
  rw [HSZ.out] at hu3 hv3 hO
  have hq3 := HQ.out.chg hch (by simp)
  obtain ⟨a3, k3, rfl, _, _⟩ := row_shape hu3
  obtain ⟨a4, k4, rfl, _, _⟩ := own_shape hv3
  have HQ3 := Lib.hid hq3
  have HP : Hid (ReadP A w R (.returned (.tuple #[circV R.1.1 (.slice a3 R.1.2.1.length k3) (.slice a4 R.1.2.2.length k4), ev])) (set3 w3 w.heap.size (.int .i64 R.1.1) (.slice a3 R.1.2.1.length k3) (.slice a4 R.1.2.2.length k4))) := by
    have hb3 : Below w.heap.size w w3 := hch.below HBW.out (by rw [HSZ.out]; omega) (by intro i hi; simp at hi; omega)
    refine ⟨⟨_, _, ev, rfl, own_prow (set3_own hu3 (by omega)), own_row (set3_own hv3 (by omega)), (hO.set3 (by omega)).mono (by omega)⟩, ?_⟩
    exact ((hb3.setCell (Nat.le_refl _) _).setCell (Nat.le_refl _) _).setCell (Nat.le_refl _) _
  obtain ⟨c0, c1, c2, cf, cs⟩ := hq3
  clear hu3 hv3 hO hch
  unfold circV
  go_wp2_with fail
  exact bodyPost_ret (v := .tuple #[circV R.1.1 (.slice a3 R.1.2.1.length k3) (.slice a4 R.1.2.2.length k4), ev]) (gres3r (HQ3.out.set3 R.1.1 (.slice a3 R.1.2.1.length k3) (.slice a4 R.1.2.2.length k4)) rfl rfl) rfl HP.out
end Go.Proofs.YtfkodpglgeghlaaDoor
