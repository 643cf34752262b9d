/- Contracts of dimacs.head and Head. Conditions: the slice reads as words, each of some bytes; the errors lie as 'Sents8' says. -/
import Derived.Test.YtfoohdknjacenaaDoorHead
namespace Go.Proofs.YtfoohdknjacenaaDoor
open Go.RowKit

theorem str_ne {xs ys : List Int} (hx : Bts xs) (hy : Bts ys) (h : xs ≠ ys) : ((strOfNums xs).toList == (strOfNums ys).toList) = false := by
  have : (strOfNums xs).toList ≠ (strOfNums ys).toList := fun e => h (str_inj hx hy e)
  simpa using this
def HeadPost (A : Nat → Addr) (w : World) (ws : List Wd) (r : Ending) (w' : World) : Prop :=
  (∃ (ev : Value) (k : Int), r = .returned (.tuple #[.int .i64 (headL ws).1, .int .i64 (headL ws).2.1, .int .i64 k, ev]) ∧ ErrV A w' ws.length ev (headL ws).2.2 ∧ ((headL ws).2.2 = .ok → k = 4)) ∧ Below w.heap.size w w'
theorem headL_0 {ws : List Wd} (h : headWordL ws 0 ≠ .ok ∨ txt ws 0 ≠ [112]) : headL ws = (0, 0, .text 0) := by
  unfold headL
  rw [if_pos]
  rintro ⟨h1, h2, h3⟩
  rcases h with h | h
  · apply h; unfold headWordL; rw [if_pos h1, h2]; rfl
  · exact h h3
theorem headW_ok {ws : List Wd} {k : Nat} (h : headWordL ws k = .ok) : k < ws.length ∧ fst ws k = decide (k = 0) := by
  unfold headWordL at h
  split at h
  · split at h
    · rename_i a b; exact ⟨a, b⟩
    · cases h
  · cases h
theorem headW_no {ws : List Wd} {k : Nat} (h : headWordL ws k ≠ .ok) : headWordL ws k = .text k := by
  unfold headWordL at *
  split
  · rename_i a
    rw [if_pos a] at h
    split
    · rename_i b; rw [if_pos b] at h; exact absurd rfl h
    · rfl
  · rfl
theorem headL_1 {ws : List Wd} (h0 : headWordL ws 0 = .ok) (h1 : txt ws 0 = [112]) (h : headWordL ws 1 ≠ .ok ∨ txt ws 1 ≠ [99, 110, 102]) : headL ws = (0, 0, .text 1) := by
  obtain ⟨a, b⟩ := headW_ok h0
  unfold headL
  rw [if_neg (fun h => h ⟨a, b, h1⟩), if_pos]
  rintro ⟨c, d, e⟩
  rcases h with h | h
  · apply h; unfold headWordL; rw [if_pos c, d]; rfl
  · exact h e
def Flt.isOk : Flt → Bool
  | .ok => true | _ => false
theorem isOk_iff (f : Flt) : f.isOk = true ↔ f = .ok := by cases f <;> simp [Flt.isOk]
theorem headL_2 {ws : List Wd} (h0 : headWordL ws 0 = .ok) (h1 : txt ws 0 = [112]) (h2 : headWordL ws 1 = .ok) (h3 : txt ws 1 = [99, 110, 102]) :
    headL ws = if (cntOut ws 2 4000).2.isOk = true then (if (cntOut ws 3 20000).2.isOk = true then ((cntOut ws 2 4000).1, (cntOut ws 3 20000).1, .ok) else (0, 0, (cntOut ws 3 20000).2)) else (0, 0, (cntOut ws 2 4000).2) := by
  obtain ⟨a, b⟩ := headW_ok h0
  obtain ⟨c, d⟩ := headW_ok h2
  unfold headL cntOut
  rw [if_neg (fun h => h ⟨a, b, h1⟩), if_neg (fun h => h ⟨c, d, h3⟩)]
  cases cntL ws 2 with
  | none => simp [Flt.isOk]
  | some x =>
    by_cases hx : 4000 < x
    · simp [hx, Flt.isOk]
    · simp only [hx, if_false]
      cases cntL ws 3 with
      | none => simp [Flt.isOk]
      | some y => by_cases hy : 20000 < y <;> simp [hy, Flt.isOk]
theorem errV_iface {A : Nat → Addr} {w : World} {n : Nat} {ev : Value} {f : Flt} (h : ErrV A w n ev f) (hf : f ≠ .ok) : ∃ t u, ev = .iface t u := by
  cases f with
  | ok => exact absurd rfl hf
  | text k => exact h.elim (fun ⟨_, b, h, _⟩ => ⟨_, _, h⟩) (fun ⟨_, h⟩ => ⟨_, _, h⟩)
  | lim k => obtain ⟨_, b, h, _⟩ := h; exact ⟨_, _, h⟩

theorem results_tmp4 {fn : Func} {t u v x : Tmp} (h : fn.results = #[.tmp t, .tmp u, .tmp v, .tmp x]) (tmps : Array Value) (P : Program) (w : World) :
    (results fn tmps).run P w = .ok (.tuple #[tmps.getD t undef, tmps.getD u undef, tmps.getD v undef, tmps.getD x undef]) w := by
  simp [results, h]

theorem ix0 (w : World) : (Instr.index 93 (.agg #[.string ⟨#[112]⟩, .string ⟨#[99, 110, 102]⟩]) (.int .i64 0)).run Tryd.prog w = .ok (.string ⟨#[112]⟩) w := by kernel_rfl
theorem ix1 (w : World) : (Instr.index 93 (.agg #[.string ⟨#[112]⟩, .string ⟨#[99, 110, 102]⟩]) (.int .i64 1)).run Tryd.prog w = .ok (.string ⟨#[99, 110, 102]⟩) w := by kernel_rfl

set_option maxRecDepth 8000 in
set_option maxHeartbeats 4000000 in
theorem head_any (A : Nat → Addr) (v : Value) (ws : List Wd) (w : World) (hS : Sents8 w A) (hv : WRow w v ws) (hok : WOk ws) (hn : ws.length ≤ 4000) :
    Calls Tryd.prog 29 #[v] w (HeadPost A w ws) := by
  have HS := Lib.hid (fun W (hW : Below w.heap.size w W) => hS.keep hW)
  have HV := Lib.hid (fun W (hW : Below w.heap.size w W) => hv.keep hW)
  have HW0 : Hid (Calls Tryd.prog 44 #[v, .int .i64 0] w fun r w' => (∃ ev, r = .returned ev ∧ ErrV A w' ws.length ev (headWordL ws 0)) ∧ Below w.heap.size w w') := headWord_any A v ws 0 w hS hv hn (by omega)
  have HW1 : Hid (∀ W, Below w.heap.size w W → Calls Tryd.prog 44 #[v, .int .i64 1] W fun r w' => (∃ ev, r = .returned ev ∧ ErrV A w' ws.length ev (headWordL ws 1)) ∧ Below W.heap.size W w') := fun W hW => headWord_any A v ws 1 W (HS.out W hW) (HV.out W hW) hn (by omega)
  have HN2 : Hid (∀ W, Below w.heap.size w W → Calls Tryd.prog 46 #[v, .int .i64 2, .int .i64 4000] W fun r w' => (∃ ev, r = .returned (.tuple #[.int .i64 (cntOut ws 2 4000).1, ev]) ∧ ErrV A w' ws.length ev (cntOut ws 2 4000).2) ∧ Below W.heap.size W w') := fun W hW => headNumber_any A v ws 2 4000 W (HS.out W hW) (HV.out W hW) hok hn (by omega) (by omega)
  have HN3 : Hid (∀ W, Below w.heap.size w W → Calls Tryd.prog 46 #[v, .int .i64 3, .int .i64 20000] W fun r w' => (∃ ev, r = .returned (.tuple #[.int .i64 (cntOut ws 3 20000).1, ev]) ∧ ErrV A w' ws.length ev (cntOut ws 3 20000).2) ∧ Below W.heap.size W w') := fun W hW => headNumber_any A v ws 3 20000 W (HS.out W hW) (HV.out W hW) hok hn (by omega) (by omega)
  have hx0 := ix0
  have hx1 := ix1
  by_cases h0 : headWordL ws 0 = .ok
  case neg =>
    have e := headL_0 (ws := ws) (.inl h0)
    rw [headW_no h0] at HW0
    unfold HeadPost
    rw [e]
    clear hS hv hok HW1 HN2 HN3 e h0 HS HV hx1
    go_enter Tryd.func29, Tryd.ntmps29
    go_wp2_with fail
    refine wp_loop_rounds 1 ?_
    rw [rounds_succ]
    go_wp2_with (go_at_call 44; refine HW0.out.mono ?_; rintro e w1 ⟨⟨ev, rfl, hE⟩, hb1⟩; obtain ⟨t, u, rfl⟩ := errV_iface hE (by intro h; cases h))
    (try simp only [Exit.inBlock, Exit.then])
    refine bodyPost_ret (results_tmp4 rfl _ _ _) rfl ?_
    exact ⟨⟨_, _, rfl, hE, fun h => (by cases h)⟩, hb1⟩
  case pos =>
  have h00 := headW_ok h0
  obtain ⟨g, cap, rfl, hcl, hcm, hw⟩ := wrow_some hv (by omega)
  have hg := hw.sq
  have g0 : w.cell? ⟨g, 0, none⟩ = some (.string (strOfNums (txt ws 0))) := by have := hw.text 0 h00.1; rwa [Nat.zero_mul] at this
  rw [h0] at HW0
  have c0 := hS.c0
  have z0 : 1 < w.heap.size := World.block_lt_of_cell? w _ c0
  have HC00 : Hid (∀ W, Below w.heap.size w W → W.cell? ⟨1, 0, none⟩ = some (.iface 155 (.pointer (some (A 0))))) := fun W hW => (hW.cell (p := ⟨1, 0, none⟩) z0).trans c0
  have HTX0 : Hid (∀ W, Below w.heap.size w W → W.cell? ⟨g, 0, none⟩ = some (.string (strOfNums (txt ws 0)))) := fun W hW => (hW.cell (p := ⟨g, 0, none⟩) hg).trans g0
  have hlen : ¬ ws.length = 0 := by omega
  obtain ⟨x1, x2, x3⟩ := hok.at h00.1
  by_cases ht : txt ws 0 = [112]
  case neg =>
    have e := headL_0 (ws := ws) (.inr ht)
    have hne := str_ne (ys := [112]) x2 (by intro x hx; simp at hx; omega) ht
    rw [show (strOfNums [112]).toList = [112] from by rw [str_toList]; rfl] at hne
    have HT : Hid (∀ W, Calls Tryd.prog 45 #[.int .i64 0, .iface 155 (.pointer (some (A 0)))] W fun e w' => (∃ ev, e = .returned ev ∧ AtV A w' ev 0 0) ∧ Below W.heap.size W w') := fun W => at_any A 0 0 W
    unfold HeadPost
    rw [e]
    have HLT := Lib.hid h00.1
    clear hS hv hok HW1 HN2 HN3 e h0 HS HV hx1 h00 hw g0 c0 x1 x2 x3 ht
    generalize strOfNums (txt ws 0) = s at *
    generalize ws.length = n at *
    generalize A 0 = a0 at *
    go_enter Tryd.func29, Tryd.ntmps29
    go_wp2_with fail
    refine wp_loop_rounds 1 ?_
    rw [rounds_succ]
    go_wp2_with (first
      | (go_at_call 44; refine HW0.out.mono ?_; rintro e w1 ⟨⟨ev, rfl, hE⟩, hb1⟩; obtain rfl : ev = .nilIface := hE; have g1 := HTX0.out _ hb1; have g2 := HC00.out _ hb1)
      | (go_at_call 45; refine (HT.out _).mono ?_; rintro e w3 ⟨⟨ov, rfl, hat⟩, hb3⟩))
    (try simp only [Exit.inBlock, Exit.then])
    refine bodyPost_ret (results_tmp4 rfl _ _ _) rfl ?_
    exact ⟨⟨_, _, rfl, .inl ⟨HLT.out, hat⟩, fun h => (by cases h)⟩, hb1.trans (hb3.mono hb1.size)⟩
  case pos =>
  rw [ht] at g0 HTX0
  have HS0 : strOfNums [112] = ⟨#[112]⟩ := rfl
  rw [HS0] at g0 HTX0
  clear HS0 x1 x2 x3
  by_cases h1 : headWordL ws 1 = .ok
  case neg =>
    have e := headL_1 h0 ht (.inl h1)
    rw [headW_no h1] at HW1
    unfold HeadPost
    rw [e]
    clear hS hv hok HN2 HN3 e h0 HS HV h00 hw g0 c0 ht h1
    generalize ws.length = n at *
    go_enter Tryd.func29, Tryd.ntmps29
    go_wp2_with fail
    refine wp_loop_rounds 2 ?_
    rw [rounds_succ]
    go_wp2_with (go_at_call 44; refine HW0.out.mono ?_; rintro e w1 ⟨⟨ev, rfl, hE⟩, hb1⟩; obtain rfl : ev = .nilIface := hE; have g1 := HTX0.out _ hb1)
    rw [rounds_succ]
    go_wp2_with (go_at_call 44; refine (HW1.out _ hb1).mono ?_; rintro e w2 ⟨⟨ev, rfl, hE⟩, hb2⟩; obtain ⟨t, u, rfl⟩ := errV_iface hE (by intro h; cases h))
    (try simp only [Exit.inBlock, Exit.then])
    refine bodyPost_ret (results_tmp4 rfl _ _ _) rfl ?_
    exact ⟨⟨_, _, rfl, hE, fun h => (by cases h)⟩, hb1.trans (hb2.mono hb1.size)⟩
  case pos =>
  have h10 := headW_ok h1
  rw [h1] at HW1
  have g3 : w.cell? ⟨g, 3, none⟩ = some (.string (strOfNums (txt ws 1))) := by have := hw.text 1 h10.1; rwa [Nat.one_mul] at this
  have HTX1 : Hid (∀ W, Below w.heap.size w W → W.cell? ⟨g, 3, none⟩ = some (.string (strOfNums (txt ws 1)))) := fun W hW => (hW.cell (p := ⟨g, 3, none⟩) hg).trans g3
  obtain ⟨y1, y2, y3⟩ := hok.at h10.1
  have hlen2 : (1 : Int) < ws.length := by omega
  by_cases ht1 : txt ws 1 = [99, 110, 102]
  case neg =>
    have e := headL_1 h0 ht (.inr ht1)
    have hne := str_ne (ys := [99, 110, 102]) y2 (by intro x hx; simp at hx; omega) ht1
    rw [show (strOfNums [99, 110, 102]).toList = [99, 110, 102] from by rw [str_toList]; rfl] at hne
    have HT : Hid (∀ W, Calls Tryd.prog 45 #[.int .i64 1, .iface 155 (.pointer (some (A 0)))] W fun e w' => (∃ ev, e = .returned ev ∧ AtV A w' ev 1 0) ∧ Below W.heap.size W w') := fun W => at_any A 1 0 W
    unfold HeadPost
    rw [e]
    have HLT := Lib.hid h10.1
    clear hS hv hok HN2 HN3 e h0 HS HV h00 hw g0 g3 c0 ht h1 ht1 h10 y1 y2 y3
    generalize strOfNums (txt ws 1) = s at *
    generalize ws.length = n at *
    generalize A 0 = a0 at *
    go_enter Tryd.func29, Tryd.ntmps29
    go_wp2_with fail
    refine wp_loop_rounds 2 ?_
    rw [rounds_succ]
    go_wp2_with (go_at_call 44; refine HW0.out.mono ?_; rintro e w1 ⟨⟨ev, rfl, hE⟩, hb1⟩; obtain rfl : ev = .nilIface := hE; have g1 := HTX0.out _ hb1)
    rw [rounds_succ]
    go_wp2_with (first
      | (go_at_call 44; refine (HW1.out _ hb1).mono ?_; rintro e w2 ⟨⟨ev, rfl, hE⟩, hb2⟩; obtain rfl : ev = .nilIface := hE; have hbw := hb1.trans (hb2.mono hb1.size); have g4 := HTX1.out _ hbw; have g5 := HC00.out _ hbw)
      | (go_at_call 45; refine (HT.out _).mono ?_; rintro e w3 ⟨⟨ov, rfl, hat⟩, hb3⟩))
    (try simp only [Exit.inBlock, Exit.then])
    refine bodyPost_ret (results_tmp4 rfl _ _ _) rfl ?_
    exact ⟨⟨_, _, rfl, .inl ⟨HLT.out, hat⟩, fun h => (by cases h)⟩, hbw.trans (hb3.mono hbw.size)⟩
  case pos =>
  rw [ht1] at HTX1
  have HS1 : strOfNums [99, 110, 102] = ⟨#[99, 110, 102]⟩ := rfl
  rw [HS1] at HTX1
  have e := headL_2 h0 ht h1 ht1
  unfold HeadPost
  rw [e]
  clear HS1 y1 y2 y3 hS hv hok e h0 HS HV h00 hw g0 g3 c0 ht h1 ht1 h10
  generalize hn1 : (cntOut ws 2 4000).1 = n1 at *
  generalize hf1 : (cntOut ws 2 4000).2 = f1 at *
  generalize hn2 : (cntOut ws 3 20000).1 = n2 at *
  generalize hf2 : (cntOut ws 3 20000).2 = f2 at *
  generalize ws.length = n at *
  clear hn1 hf1 hn2 hf2
  cases hk1 : f1.isOk with
  | false =>
    have hk1' : f1 ≠ .ok := fun h => by rw [h] at hk1; cases hk1
    have HK1 := Lib.hid hk1'; clear hk1'
    go_enter Tryd.func29, Tryd.ntmps29
    go_wp2_with fail
    refine wp_loop_rounds 3 ?_
    rw [rounds_succ]
    go_wp2_with (go_at_call 44; refine HW0.out.mono ?_; rintro e w1 ⟨⟨ev, rfl, hE⟩, hb1⟩; obtain rfl : ev = .nilIface := hE; have g1 := HTX0.out _ hb1)
    rw [rounds_succ]
    go_wp2_with (go_at_call 44; refine (HW1.out _ hb1).mono ?_; rintro e w2 ⟨⟨ev, rfl, hE⟩, hb2⟩; obtain rfl : ev = .nilIface := hE; have hbw := hb1.trans (hb2.mono hb1.size); have g4 := HTX1.out _ hbw)
    rw [rounds_succ]
    go_wp2_with (go_at_call 46; refine (HN2.out _ hbw).mono ?_; rintro e w3 ⟨⟨ev, rfl, hE⟩, hb3⟩; obtain ⟨t, u, rfl⟩ := errV_iface hE HK1.out)
    (try simp only [Exit.inBlock, Exit.then])
    refine bodyPost_ret (results_tmp4 rfl _ _ _) rfl ?_
    exact ⟨⟨_, _, rfl, hE, fun h => absurd h HK1.out⟩, hbw.trans (hb3.mono hbw.size)⟩
  | true =>
    obtain rfl : f1 = .ok := (isOk_iff _).1 hk1
    cases hk2 : f2.isOk with
    | false =>
      have hk2' : f2 ≠ .ok := fun h => by rw [h] at hk2; cases hk2
      have HK2 := Lib.hid hk2'; clear hk2'
      go_enter Tryd.func29, Tryd.ntmps29
      go_wp2_with fail
      refine wp_loop_rounds 3 ?_
      rw [rounds_succ]
      go_wp2_with (go_at_call 44; refine HW0.out.mono ?_; rintro e w1 ⟨⟨ev, rfl, hE⟩, hb1⟩; obtain rfl : ev = .nilIface := hE; have g1 := HTX0.out _ hb1)
      rw [rounds_succ]
      go_wp2_with (go_at_call 44; refine (HW1.out _ hb1).mono ?_; rintro e w2 ⟨⟨ev, rfl, hE⟩, hb2⟩; obtain rfl : ev = .nilIface := hE; have hbw := hb1.trans (hb2.mono hb1.size); have g4 := HTX1.out _ hbw)
      rw [rounds_succ]
      go_wp2_with (first
        | (go_at_call_of 46 (Value.int IntKind.i64 (3 : Int)); refine (HN3.out _ hbx).mono ?_; rintro e w4 ⟨⟨ev, rfl, hE⟩, hb4⟩; obtain ⟨t, u, rfl⟩ := errV_iface hE HK2.out)
        | (go_at_call_of 46 (Value.int IntKind.i64 (2 : Int)); refine (HN2.out _ hbw).mono ?_; rintro e w3 ⟨⟨ev, rfl, hE⟩, hb3⟩; obtain rfl : ev = .nilIface := hE; have hbx := hbw.trans (hb3.mono hbw.size)))
      (try simp only [Exit.inBlock, Exit.then])
      refine bodyPost_ret (results_tmp4 rfl _ _ _) rfl ?_
      exact ⟨⟨_, _, rfl, hE, fun h => absurd h HK2.out⟩, hbx.trans (hb4.mono hbx.size)⟩
    | true =>
      obtain rfl : f2 = .ok := (isOk_iff _).1 hk2
      go_enter Tryd.func29, Tryd.ntmps29
      go_wp2_with fail
      refine wp_loop_rounds 3 ?_
      rw [rounds_succ]
      go_wp2_with (go_at_call 44; refine HW0.out.mono ?_; rintro e w1 ⟨⟨ev, rfl, hE⟩, hb1⟩; obtain rfl : ev = .nilIface := hE; have g1 := HTX0.out _ hb1)
      rw [rounds_succ]
      go_wp2_with (go_at_call 44; refine (HW1.out _ hb1).mono ?_; rintro e w2 ⟨⟨ev, rfl, hE⟩, hb2⟩; obtain rfl : ev = .nilIface := hE; have hbw := hb1.trans (hb2.mono hb1.size); have g4 := HTX1.out _ hbw)
      rw [rounds_succ]
      go_wp2_with (first
        | (go_at_call_of 46 (Value.int IntKind.i64 (3 : Int)); refine (HN3.out _ hbx).mono ?_; rintro e w4 ⟨⟨ev, rfl, hE⟩, hb4⟩; obtain rfl : ev = .nilIface := hE)
        | (go_at_call_of 46 (Value.int IntKind.i64 (2 : Int)); refine (HN2.out _ hbw).mono ?_; rintro e w3 ⟨⟨ev, rfl, hE⟩, hb3⟩; obtain rfl : ev = .nilIface := hE; have hbx := hbw.trans (hb3.mono hbw.size)))
      (try simp only [Exit.inBlock, Exit.then])
      refine bodyPost_ret (results_tmp4 rfl _ _ _) rfl ?_
      have HBZ := hbx.trans (hb4.mono hbx.size)
      first
        | exact ⟨⟨_, _, rfl, rfl, fun _ => rfl⟩, HBZ⟩
        | exact ⟨⟨_, rfl, rfl⟩, HBZ⟩
        | exact ⟨⟨_, rfl⟩, HBZ⟩
        | exact ⟨⟨_, by simp [ErrV]⟩, HBZ⟩

theorem headOf_any (A : Nat → Addr) (v : Value) (ws : List Wd) (e : Int) (w : World) (hS : Sents8 w A) (hv : WRow w v ws) (hok : WOk ws) (hn : ws.length ≤ 4000) :
    Calls Tryd.prog 15 #[v, .int .i64 e] w fun r w' => (∃ (ov : Value) (k : Int), r = .returned (.tuple #[.int .i64 (headL ws).1, .int .i64 (headL ws).2.1, .int .i64 k, ov]) ∧ OutV A w.heap.size w' ws e ov (headL ws).2.2 ∧ ((headL ws).2.2 = .ok → k = 4)) ∧ Below w.heap.size w w' := by
  have H1 := Lib.hid (head_any A v ws w hS hv hok hn)
  have H2 := Lib.hid (fun W (hW : Below w.heap.size w W) ev f (h : ErrV A W ws.length ev f) => told_any A v ev ws e f W (hS.keep hW) (hv.o.keep hW) h)
  clear hS hv hok
  unfold HeadPost at H1
  generalize (headL ws).1 = n1 at *
  generalize (headL ws).2.1 = n2 at *
  generalize (headL ws).2.2 = f at *
  go_enter Tryd.func15, Tryd.ntmps15
  go_wp2_with (first
    | (go_at_call 29; refine H1.out.mono ?_; rintro e w1 ⟨⟨ev, k, rfl, hE, hk⟩, hb1⟩)
    | (go_at_call 30; refine (H2.out _ hb1 _ _ hE).mono ?_; rintro e w2 ⟨⟨ov, rfl, hO⟩, hb2⟩))
  (try simp only [Exit.inBlock, Exit.then])
  refine bodyPost_ret (results_tmp4 rfl _ _ _) rfl ?_
  exact ⟨⟨_, _, rfl, hO.mono hb1.size, hk⟩, hb1.trans (hb2.mono hb1.size)⟩
end Go.Proofs.YtfoohdknjacenaaDoor
