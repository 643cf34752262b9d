/- The contract of lits.Check: which fault it tells. Conditions: the clauses read as lists of 64-bit ints, short ones; the package's errors lie as 'Sents2' says. · The contract of slow.Sat at right clauses: the first model by going through all, or none; the error where there are too many variables. Conditions: the clauses read as right literals; the two errors lie as 'Sents2' says. -/
import Derived.Test.YtjpchjbpolcndaaDoorCheck
import Derived.Test.YtjpchjbpolcndaaDoorSlD
import Derived.Test.YtjpchjbpolcndaaDoorTold
import Derived.Test.YtjpchjbpolcndaaDoorSmall
namespace Go.Proofs.YtjpchjbpolcndaaDoor
open Go.RowKit

set_option maxHeartbeats 2000000 in
theorem check2_any (A : Nat → Addr) (vars : Int) (a : Option Addr) (cap : Nat) (xss : List (List Int)) (w : World) (hS : Sents2 w A) (hv1 : -9223372036854775808 ≤ vars) (hv2 : vars ≤ 9223372036854775807) (hr : RowsAt w a cap xss)
    (hint : ∀ xs ∈ xss, ∀ l ∈ xs, -9223372036854775807 ≤ l ∧ l ≤ 9223372036854775807) (hlen : ∀ xs ∈ xss, xs.length < 1000000000) :
    Calls Tryd.prog 48 #[.agg #[.int .i64 vars, .slice a xss.length cap]] w (CheckPost A w vars xss) := by
  obtain ⟨hc1, hc2, hr⟩ := hr
  unfold maxLen at hc2
  have HR := Lib.hid hr; clear hr
  have HI := Lib.hid hint; clear hint
  have HLEN := Lib.hid hlen; clear hlen
  have HS := Lib.hid hS
  have s1 : w.cell? ⟨1, 0, none⟩ = some (.iface 166 (.pointer (some (A 1)))) := hS.c1
  have s3 : w.cell? ⟨0, 0, none⟩ = some (.iface 166 (.pointer (some (A 3)))) := hS.c3
  have z1 : 1 < w.heap.size := World.block_lt_of_cell? w _ s1
  have z3 : 0 < w.heap.size := World.block_lt_of_cell? w _ s3
  clear hS
  have hbw : ∀ o, Below w.heap.size w (w.alloc o) := fun o => (Below.refl _ w).alloc (Nat.le_refl _) _
  have HB := Lib.hid hbw; clear hbw
  have HL : Hid (∀ W, Below w.heap.size w W → tooMuch vars xss → CheckPost A w vars xss (.returned (sentV A 1)) W) := fun W hW ht =>
    ⟨sentV A 1, 102, false, 0, rfl, .inl ⟨ht, rfl, rfl, rfl⟩, errR_sent A W 1 (by omega), fun h => by omega, fun _ => ⟨_, _, rfl⟩, hW⟩
  generalize hN : xss.length = n at *
  have HN := Lib.hid hN; clear hN
  by_cases hvn : vars < 0
  · have HT := Lib.hid (show tooMuch vars xss from .inl hvn)
    go_enter Tryd.func48, Tryd.ntmps48
    go_wp2_with fail
    go_ret
    exact HL.out _ (HB.out _) HT.out
  have hd1 : decide (vars < 0) = false := by simpa using hvn
  by_cases hvp : 4000 < vars
  · have HT := Lib.hid (show tooMuch vars xss from .inr (.inl hvp))
    go_enter Tryd.func48, Tryd.ntmps48
    go_wp2_with fail
    go_ret
    exact HL.out _ (HB.out _) HT.out
  have hd2 : decide (4000 < vars) = false := by simpa using hvp
  by_cases hnp : 20000 < n
  · have HT := Lib.hid (show tooMuch vars xss from .inr (.inr (.inl (by rw [HN.out]; exact hnp))))
    go_enter Tryd.func48, Tryd.ntmps48
    go_wp2_with fail
    go_ret
    exact HL.out _ (HB.out _) HT.out
  have hd3 : decide (20000 < (n : Int)) = false := by simp; omega
  go_enter Tryd.func48, Tryd.ntmps48
  go_wp2_with fail
  go_loop [3, 28] (fun s i => ∃ k : Nat, k ≤ n ∧ i = .int .i64 k ∧ s = .int .i64 (sumTo xss k) ∧ sumTo xss k ≤ 80000) (fun _ i => n - (intOf i).toNat)
  case atStart => exact ⟨0, Nat.zero_le _, rfl, rfl, by simp [sumTo]⟩
  case round =>
    obtain ⟨k, hk, rfl, rfl, hsum⟩ := hrel
    by_cases hlt : k < n
    · obtain ⟨b, off, ha, hb, hc⟩ := HR.out.resolve_left (by omega)
      subst ha
      obtain ⟨v, g1, hv⟩ := hc k hlt
      clear hc
      have hkl : k < xss.length := by rw [HN.out]; exact hlt
      have HSU := Lib.hid (sumTo_succ xss k hkl)
      have hle : (xss.getD k []).length < 1000000000 := HLEN.out _ (by simp [List.getD, hkl])
      have HMO := Lib.hid (sumTo_mono xss (k + 1) xss.length (by omega))
      clear hkl
      obtain ⟨av, cv, rfl, hrv⟩ := hv
      clear hrv
      generalize (xss.getD k []).length = m at *
      by_cases hs : 80000 < sumTo xss k + m
      · have HT := Lib.hid (show tooMuch vars xss from .inr (.inr (.inr (by have := HMO.out; rw [HSU.out] at this; omega))))
        generalize sumTo xss k = sk at *
        go_wp2_with fail
        go_ret
        exact HL.out _ (HB.out _) HT.out
      · generalize hsk : sumTo xss k = sk at *
        go_wp2_with fail
        go_round
        case rel => exact ⟨k + 1, by omega, by go_num, by rw [HSU.out]; go_num, by rw [HSU.out]; omega⟩
        case measure => simp [intOf]; omega
    · have hkn : k = n := by omega
      have HNT := Lib.hid (show ¬ tooMuch vars xss from by
        rintro (h | h | h | h)
        · omega
        · omega
        · rw [HN.out] at h; exact hnp h
        · rw [HN.out, ← hkn] at h; omega)
      clear hlt hsum
      go_wp2_with fail
      clear hkn hk
      go_loop [43] (fun i => ∃ k : Nat, k ≤ n ∧ i = .int .i64 k ∧ Hid (∀ j, j < k → ∀ l ∈ xss.getD j [], isB vars l = true)) (fun i => n - (intOf i).toNat)
      case atStart => exact ⟨0, Nat.zero_le _, rfl, fun j hj => absurd hj (Nat.not_lt_zero _)⟩
      case round =>
        obtain ⟨k, hk, rfl, HQ⟩ := hrel
        by_cases hlt : k < n
        · obtain ⟨b, off, ha, hb, hc⟩ := HR.out.resolve_left (by omega)
          subst ha
          obtain ⟨v, g1, hv⟩ := hc k hlt
          clear hc
          have hkl : k < xss.length := by rw [HN.out]; exact hlt
          have hmem : xss.getD k [] ∈ xss := by simp [List.getD, hkl]
          have hle : (xss.getD k []).length < 1000000000 := HLEN.out _ hmem
          have HIK := Lib.hid (HI.out _ hmem)
          clear hmem
          generalize hys : xss.getD k [] = ys at *
          have HYS := Lib.hid hys; clear hys
          obtain ⟨av, cv, rfl, hrv1, hrv2, hrv⟩ := hv
          have HRV := Lib.hid hrv; clear hrv
          unfold maxLen at hrv2
          generalize hm : ys.length = m at *
          have HM := Lib.hid hm; clear hm
          have HKL := Lib.hid hkl; clear hkl
          go_wp2_with fail
          go_loop [50] (fun i => ∃ j : Nat, j ≤ m ∧ i = .int .i64 j ∧ Hid (∀ i, i < j → isB vars (ys.getD i 0) = true)) (fun i => m - (intOf i).toNat)
          case atStart => exact ⟨0, Nat.zero_le _, rfl, fun j hj => absurd hj (Nat.not_lt_zero _)⟩
          case round =>
            obtain ⟨j, hj, rfl, HP⟩ := hrel
            by_cases hjl : j < m
            · obtain ⟨b2, off2, ha2, hb2, hc2'⟩ := HRV.out.resolve_left (by omega)
              subst ha2
              have g2 : w.cell? ⟨b2, off2 + j, none⟩ = some (.int .i64 (ys.getD j 0)) := hc2' j hjl
              clear hc2'
              have hjy : j < ys.length := by rw [HM.out]; exact hjl
              have hmem2 : ys.getD j 0 ∈ ys := by simp [List.getD, hjy]
              obtain ⟨hl1, hl2⟩ := HIK.out _ hmem2
              have HME := Lib.hid hmem2; clear hmem2 hjy
              generalize hlj : ys.getD j 0 = l at *
              have HLJ := Lib.hid hlj; clear hlj
              have HIS := Lib.hid (fun W => is_any l vars W hl1 hl2)
              obtain ⟨r, hr⟩ : ∃ r, isB vars l = r := ⟨_, rfl⟩
              rw [show (decide (1 ≤ absI l) && decide (absI l ≤ vars)) = r from hr] at HIS
              have HRR := Lib.hid hr; clear hr
              cases r with
              | true =>
                go_wp2_with (go_at_call 74; refine (HIS.out _).mono ?_; rintro e w' ⟨rfl, rfl⟩)
                go_round
                case rel =>
                  refine ⟨j + 1, by omega, by go_num, fun i hi => ?_⟩
                  by_cases e : i = j
                  · rw [e, HLJ.out]; exact HRR.out
                  · exact HP.out i (by omega)
                case measure => simp [intOf]; omega
              | false =>
                have HFB := Lib.hid (show firstBad vars xss k from ⟨HKL.out, HQ.out, l, by rw [HYS.out]; exact HME.out, HRR.out⟩)
                go_wp2_with (go_at_call 74; refine (HIS.out _).mono ?_; rintro e w' ⟨rfl, rfl⟩)
                go_ret
                have hbb : ∀ o, Below w.heap.size w ((w.alloc (.cells #[.int .i64 vars, .slice (some ⟨b, off, none⟩) n cap] 30)).alloc o) := fun o => (HB.out _).alloc (by simp) _
                refine ⟨_, 104, true, k, rfl, .inr (.inl ⟨HNT.out, k, HFB.out, rfl, rfl, rfl⟩), ?_, fun h => by omega, fun _ => ⟨_, _, rfl⟩, hbb _⟩
                refine errR_at 3 (by omega) (w.heap.size + 1) k ?_ ?_
                · rw [World.cell?_alloc_at _ _ _ _ (by simp)]; rfl
                · rw [World.cell?_alloc_at _ _ _ _ (by simp)]; rfl
            · have hjm : j = m := by omega
              have HALL := Lib.hid (show ∀ j', j' < k + 1 → ∀ l ∈ xss.getD j' [], isB vars l = true from by
                intro j' hj' l hl
                by_cases e : j' = k
                · rw [e, HYS.out] at hl
                  obtain ⟨i, hi, rfl⟩ := List.getElem_of_mem hl
                  have := HP.out i (by rw [HM.out] at hi; omega)
                  simpa [List.getD, hi] using this
                · exact HQ.out j' (by omega) l hl)
              clear hjl
              go_wp2_with fail
              go_round
              case rel => exact ⟨k + 1, by omega, by go_num, HALL.out⟩
              case measure => simp [intOf]; omega
        · have hkn : k = n := by omega
          have HALL := Lib.hid (show allIs vars xss from by
            intro xs hxs l hl
            obtain ⟨i, hi, rfl⟩ := List.getElem_of_mem hxs
            exact HQ.out i (by rw [HN.out] at hi; omega) l (by simpa [List.getD, hi] using hl))
          clear hlt
          go_wp2_with fail
          go_ret
          exact ⟨_, 0, false, 0, rfl, .inr (.inr ⟨HNT.out, HALL.out, rfl, rfl, rfl⟩), errR_nil A _, fun _ => rfl, fun h => absurd rfl h, HB.out _⟩
end Go.Proofs.YtjpchjbpolcndaaDoor

namespace Go.Proofs.YtjpchjbpolcndaaDoor
open Go.RowKit

theorem satN_some {m : List (List Int)} {v n : Nat} (hn : n < 2 ^ v) (hp : ∀ j, j < n → ofL m (false :: bitsN j v) = false) (h : ofL m (false :: bitsN n v) = true) : satN m v = some n := by
  unfold satN
  rw [List.find?_eq_some_iff_getElem]
  refine ⟨h, n, by simpa using hn, by simp, fun j hj => ?_⟩
  simpa using hp j hj
theorem satN_none {m : List (List Int)} {v : Nat} (hp : ∀ j, j < 2 ^ v → ofL m (false :: bitsN j v) = false) : satN m v = none := by
  unfold satN
  rw [List.find?_eq_none]
  intro x hx
  simpa using hp x (List.mem_range.1 hx)
theorem sat_hold {m : List (List Int)} {ds : List Mk} {v n : Nat} (hv : v ≤ 20) (h : ∀ c ∈ m, ∀ l ∈ c, l ≠ 0 ∧ plc l ≤ v) (hd : ∀ x, x ∈ ds ↔ x ∈ restL [] m) : holdD ds n = ofL m (false :: bitsN n v) := by
  unfold holdD
  rw [all_same hd]
  have h2 := rest_hold [] m n v (by omega) (fun c hc l hl => by simpa using h c hc l hl)
  rw [h2, List.nil_append]
theorem all_plc {m : List (List Int)} {v : Nat} (h : allIs (v : Int) m) : ∀ c ∈ m, ∀ l ∈ c, l ≠ 0 ∧ plc l ≤ v := fun c hc l hl => by
  have h1 := h c hc l hl
  unfold isB at h1
  simp only [Bool.and_eq_true, decide_eq_true_eq] at h1
  have h2 := plc_absI l
  refine ⟨fun e => ?_, by omega⟩
  subst e
  simp [absI] at h1

def SatPost (m : List (List Int)) (v : Nat) (w : World) (e : Ending) (w' : World) : Prop :=
  (∃ u, e = .returned (.tuple #[u, .bool (satN m v).isSome, .nilIface]) ∧ (∀ n, satN m v = some n → BoolRow w' u (false :: bitsN n v)) ∧ (satN m v = none → u = .slice none 0 0)) ∧ Below w.heap.size w w'

set_option maxRecDepth 8000 in
set_option maxHeartbeats 2000000 in
theorem sat_ok (A : Nat → Addr) (vn : Nat) (a : Option Addr) (c : Nat) (xss : List (List Int)) (w : World) (hS : Sents2 w A) (hr : RowsAt w a c xss) (hint : ∀ xs ∈ xss, ∀ l ∈ xs, -9223372036854775807 ≤ l ∧ l ≤ 9223372036854775807) (hlen : ∀ xs ∈ xss, xs.length < 1000000000) (hm : xss.length ≤ 1000000) (hgood : allIs (vn : Int) xss) (hmuch : ¬ tooMuch (vn : Int) xss) (h20 : vn ≤ 20) :
    Calls Tryd.prog 17 #[.agg #[.int .i64 (vn : Int), .slice a xss.length c]] w (SatPost xss vn w) := by
  have hright := all_plc hgood
  have HCK := Lib.hid (fun W (hW : Below w.heap.size w W) => check2_any A (vn : Int) a c xss W (hS.keep hW) (by omega) (by omega) (hr.keep hW) hint hlen)
  have HC0 : Hid (∀ cc p k, CheckF (vn : Int) xss cc p k → cc = 0) := fun cc p k h => by
    rcases h with ⟨h1, _⟩ | ⟨_, i, ⟨h1, h2, h3⟩, _⟩ | ⟨_, _, h1, _⟩
    · exact absurd h1 hmuch
    · obtain ⟨l, hl, hf⟩ := h3
      have := hgood (xss.getD i []) (by simp [List.getD, h1]) l hl
      rw [this] at hf
      cases hf
    · exact h1
  have HRS := Lib.hid (fun W (hW : Below w.heap.size w W) => rest_any a c xss (.slice none 0 0) [] W (hr.keep hW) (RowG.nil _ _ _) (inW_plc (by omega) hright) (by simp) (fun c hc l hl => by have := (hright c hc l hl).2; simp; omega) hm)
  have HHD := Lib.hid (fun (ds : List Mk) n W al cl (hv : RowM W (.slice al ds.length cl) ds) => hold_any (.slice al ds.length cl) ds n W hv)
  have HEQ := Lib.hid (fun ds n hd => @sat_hold xss ds vn n h20 hright hd)
  have HMD := Lib.hid (fun n W => model_any n vn W (by omega))
  have HSM := Lib.hid (fun n hn hp h => @satN_some xss vn n hn hp h)
  have HNO := Lib.hid (fun h => @satN_none xss vn h)
  have HCX : Hid (∀ W, Below (w.alloc (.cells #[.int .i64 (vn : Int), .slice a xss.length c] 30)).heap.size (w.alloc (.cells #[.int .i64 (vn : Int), .slice a xss.length c] 30)) W → (W.cell? ⟨w.heap.size, 0, none⟩ = some (.int .i64 (vn : Int)) ∧ W.cell? ⟨w.heap.size, 1, none⟩ = some (.slice a xss.length c)) ∧ Below w.heap.size w W) := fun W h =>
    ⟨cells2 w W _ _ 30 h, ((Below.refl _ w).alloc (Nat.le_refl _) _).trans (h.mono (by simp))⟩
  have HA := Lib.hid (fun o => show Below w.heap.size w (w.alloc o) from (Below.refl _ w).alloc (Nat.le_refl _) _)
  clear hr hint hlen hS hgood hmuch hright hm
  have hd1 : decide ((20 : Int) < (vn : Int)) = false := decide_eq_false (by omega)
  have hd2 : decide (20 < vn) = false := decide_eq_false (by omega)
  have hpi := pow_wrap vn h20
  have hpb := pow20 h20
  generalize hT : 2 ^ vn = T at *
  clear hT
  generalize xss.length = nx at *
  go_enter Tryd.func17, Tryd.ntmps17
  go_wp2_with (first
    | (go_at_call 48; refine (HCK.out _ (HA.out _)).mono ?_; rintro e w1 ⟨ev, cc, p0, k0, rfl, hcf, hef, hz, hnz, hb1⟩; obtain rfl := hz (HC0.out _ _ _ hcf); obtain ⟨⟨g0, g1⟩, hbw1⟩ := HCX.out _ hb1; clear hcf hef hz hnz)
    | (go_at_call 46; refine (HRS.out _ hbw1).mono ?_; rintro e w2 ⟨⟨cv, ds, rfl, hcv, hnw, hds⟩, hw2⟩; have HCV := Lib.hid hcv; obtain ⟨al, cl, rfl, _⟩ := hcv; have hb12 := hb1.trans (hw2.mono hb1.size); obtain ⟨⟨x0, x1⟩, hbw2⟩ := HCX.out _ hb12))
  rw [hpi]
  clear hpi
  have HB2 := Lib.hid hb12
  have HBW := Lib.hid hbw2
  have HDS := Lib.hid hds
  have hgl := World.block_lt_of_cell? w2 _ x0
  simp only at hgl
  clear g0 g1 x1 hb1 hbw1 hw2 hnw hb12 hbw2 hds
  go_loopw [6, 21] (fun _ i wr => ∃ k : Nat, k ≤ T ∧ i = .int .i64 k ∧ Below w2.heap.size w2 wr ∧ Hid (∀ j, j < k → ofL xss (false :: bitsN j vn) = false)) (fun _ i _ => T - (intOf i).toNat)
  case atStart => exact ⟨0, Nat.zero_le _, rfl, Below.refl _ _, fun j hj => absurd hj (Nat.not_lt_zero _)⟩
  case round =>
    obtain ⟨k, hk, rfl, hbr, HQ⟩ := hrel
    have x0' := (hbr.cell (p := ⟨w.heap.size, 0, none⟩) hgl).trans x0
    have HBR := Lib.hid hbr
    have HBRS := Lib.hid hbr.size
    by_cases hlt : k < T
    · have HHK := Lib.hid (HHD.out ds k wr al cl (HCV.out.keep hbr))
      rw [HEQ.out ds k HDS.out] at HHK
      have HSK := Lib.hid (HSM.out k hlt HQ.out)
      have HMK := Lib.hid (HMD.out k)
      have HQ1 : Hid (ofL xss (false :: bitsN k vn) = false → ∀ j, j < k + 1 → ofL xss (false :: bitsN j vn) = false) := fun h j hj => by
        by_cases e : j = k
        · subst e; exact h
        · exact HQ.out j (by omega)
      clear hbr
      generalize ofL xss (false :: bitsN k vn) = t at *
      generalize ds.length = nd at *
      cases t with
      | true =>
        have HF := Lib.hid (HSK.out rfl)
        clear HSK HQ1
        go_wp2_with (first
          | (go_at_call 49; refine HHK.out.mono ?_; rintro e w3 ⟨rfl, hw3⟩; have x03 := (hw3.cell (p := ⟨w.heap.size, 0, none⟩) (Nat.lt_of_lt_of_le hgl HBRS.out)).trans x0')
          | (go_at_call 50; refine (HMK.out _).mono ?_; rintro e w4 ⟨⟨u, rfl, hu⟩, hw4⟩; have HU := Lib.hid hu; obtain ⟨au, cu, rfl, _⟩ := hu))
        have hend : SatPost xss vn w (.returned (.tuple #[.slice au (List.length (false :: bitsN k vn)) cu, .bool true, .nilIface])) w4 := by
          refine ⟨⟨_, by rw [HF.out]; rfl, fun n hn => ?_, fun hn => ?_⟩, HBW.out.trans ((HBR.out.trans ((hw3.trans (hw4.mono hw3.size)).mono HBRS.out)).mono HBW.out.size)⟩
          · rw [HF.out] at hn
            obtain rfl := Option.some.inj hn
            exact HU.out
          · rw [HF.out] at hn
            cases hn
        (try simp only [Exit.inBlock, Exit.then])
        refine bodyPost_ret (results_tmp3 rfl _ _ _) rfl ?_
        exact hend
      | false =>
        have HQ2 := Lib.hid (HQ1.out rfl)
        clear HSK HQ1
        go_wp2_with (go_at_call 49; refine HHK.out.mono ?_; rintro e w3 ⟨rfl, hw3⟩)
        go_roundw
        case rel => exact ⟨k + 1, by omega, by go_num, HBR.out.trans (hw3.mono HBRS.out), HQ2.out⟩
        case measure => simp [intOf]; omega
    · have hkT : k = T := by omega
      subst hkT
      have HF := Lib.hid (HNO.out HQ.out)
      clear hbr hlt HQ HNO HSM
      go_wp2_with fail
      have hend : SatPost xss vn w (.returned (.tuple #[.slice none 0 0, .bool false, .nilIface])) wr := by
        refine ⟨⟨_, by rw [HF.out]; rfl, fun n hn => ?_, fun _ => rfl⟩, HBW.out.trans (HBR.out.mono HBW.out.size)⟩
        rw [HF.out] at hn
        cases hn
      (try simp only [Exit.inBlock, Exit.then])
      refine bodyPost_ret (results_tmp3 rfl _ _ _) rfl ?_
      exact hend

set_option maxRecDepth 8000 in
set_option maxHeartbeats 2000000 in
theorem sat_limit (A : Nat → Addr) (vn : Nat) (a : Option Addr) (c : Nat) (xss : List (List Int)) (w : World) (hS : Sents2 w A) (hr : RowsAt w a c xss) (hint : ∀ xs ∈ xss, ∀ l ∈ xs, -9223372036854775807 ≤ l ∧ l ≤ 9223372036854775807) (hlen : ∀ xs ∈ xss, xs.length < 1000000000) (hgood : allIs (vn : Int) xss) (hmuch : ¬ tooMuch (vn : Int) xss) (h20 : 20 < vn) (hvm : vn ≤ 4000) :
    Calls Tryd.prog 17 #[.agg #[.int .i64 (vn : Int), .slice a xss.length c]] w fun e w' => e = .returned (.tuple #[.slice none 0 0, .bool false, sentV A 1]) ∧ Below w.heap.size w w' := by
  have HCK := Lib.hid (fun W (hW : Below w.heap.size w W) => check2_any A (vn : Int) a c xss W (hS.keep hW) (by omega) (by omega) (hr.keep hW) hint hlen)
  have HC0 : Hid (∀ cc p k, CheckF (vn : Int) xss cc p k → cc = 0) := fun cc p k h => by
    rcases h with ⟨h1, _⟩ | ⟨_, i, ⟨h1, h2, h3⟩, _⟩ | ⟨_, _, h1, _⟩
    · exact absurd h1 hmuch
    · obtain ⟨l, hl, hf⟩ := h3
      have := hgood (xss.getD i []) (by simp [List.getD, h1]) l hl
      rw [this] at hf
      cases hf
    · exact h1
  have HCX : Hid (∀ W, Below (w.alloc (.cells #[.int .i64 (vn : Int), .slice a xss.length c] 30)).heap.size (w.alloc (.cells #[.int .i64 (vn : Int), .slice a xss.length c] 30)) W → (W.cell? ⟨w.heap.size, 0, none⟩ = some (.int .i64 (vn : Int)) ∧ W.cell? ⟨w.heap.size, 1, none⟩ = some (.slice a xss.length c)) ∧ Below w.heap.size w W) := fun W h =>
    ⟨cells2 w W _ _ 30 h, ((Below.refl _ w).alloc (Nat.le_refl _) _).trans (h.mono (by simp))⟩
  have HA := Lib.hid (fun o => show Below w.heap.size w (w.alloc o) from (Below.refl _ w).alloc (Nat.le_refl _) _)
  have HC1 : Hid (∀ W, Below w.heap.size w W → W.cell? ⟨1, 0, none⟩ = some (.iface 166 (.pointer (some (A 1))))) := fun W hW => (hS.keep hW).c1
  unfold sentV
  clear hr hint hlen hS hgood hmuch
  have hd1 : decide ((20 : Int) < (vn : Int)) = true := decide_eq_true (by omega)
  have hd2 : decide (20 < vn) = true := decide_eq_true h20
  generalize A 1 = q1 at *
  generalize xss.length = nx at *
  go_enter Tryd.func17, Tryd.ntmps17
  go_wp2_with (go_at_call 48; refine (HCK.out _ (HA.out _)).mono ?_; rintro e w1 ⟨ev, cc, p0, k0, rfl, hcf, hef, hz, hnz, hb1⟩; obtain rfl := hz (HC0.out _ _ _ hcf); obtain ⟨⟨g0, g1⟩, hbw1⟩ := HCX.out _ hb1; have s1 := HC1.out _ hbw1; clear hcf hef hz hnz)
  have HBW := Lib.hid hbw1
  clear hb1 hbw1
  go_quiet (fail)
  go_wp2_with fail
  (try simp only [Exit.inBlock, Exit.then])
  refine bodyPost_ret (results_tmp3 rfl _ _ _) rfl ?_
  exact ⟨rfl, by first | exact HBW.out | exact HBW.out.drew | exact below_drewN HBW.out _⟩
end Go.Proofs.YtjpchjbpolcndaaDoor
