/- The walk of skolemlaw14.HeapOrder: it answers true. Conditions: both arguments read as 64-bit ints. -/
import Derived.Test.YteiidcogjmekhaaHoP
namespace Go.Proofs.Yteiidcogjmekhaa
open Go.RowKit

set_option maxRecDepth 8000 in
set_option maxHeartbeats 8000000 in
theorem lawHo (a1 a2 : Option Addr) (c1 c2 : Nat) (sc ts : List Int) (w : World) (hs : RowAt w a1 c1 sc) (hsb : ∀ y ∈ sc, -9223372036854775808 ≤ y ∧ y ≤ 9223372036854775807) (ht : RowAt w a2 c2 ts) (htb : ∀ y ∈ ts, -9223372036854775808 ≤ y ∧ y ≤ 9223372036854775807) :
    Calls Try.prog 4 #[.slice a1 sc.length c1, .slice a2 ts.length c2] w fun e w' => e = .returned (.bool true) ∧ Below w.heap.size w w' := by
  obtain ⟨hs1, hs2, hs3⟩ := hs
  obtain ⟨ht1, ht2, ht3⟩ := ht
  unfold maxLen at hs2 ht2
  have HX := Lib.hid hs3; clear hs3
  have HY := Lib.hid ht3; clear ht3
  have HSB : Hid (∀ k, k < sc.length → -9223372036854775808 ≤ sc.getD k 0 ∧ sc.getD k 0 ≤ 9223372036854775807) := fun k hk => hsb _ (by simp [List.getD, hk])
  have HTB : Hid (∀ k, k < ts.length → -9223372036854775808 ≤ ts.getD k 0 ∧ ts.getD k 0 ≤ 9223372036854775807) := fun k hk => htb _ (by simp [List.getD, hk])
  clear hsb htb
  generalize hn : sc.length = n at *
  generalize hm : ts.length = m at *
  have HN := Lib.hid hn; clear hn
  have HM := Lib.hid hm; clear hm
  by_cases g1 : 40 < n
  · have d1 : decide ((40 : Int) < (n : Int)) = true := decide_eq_true (by omega)
    clear g1
    go_enter Try.func4, Try.ntmps4
    go_wp2_with (go_at_call 6; refine (first14_any _).mono ?_; rintro e w1 ⟨rfl, hb⟩)
    go_ret
    exact ⟨rfl, hb⟩
  · have d1 : decide ((40 : Int) < (n : Int)) = false := decide_eq_false (by omega)
    by_cases g2 : m < n
    · have d2 : decide ((m : Int) < (n : Int)) = true := decide_eq_true (by omega)
      have d3 : decide (m < n) = true := decide_eq_true g2
      clear g2
      go_enter Try.func4, Try.ntmps4
      go_wp2_with (go_at_call 6; refine (first14_any _).mono ?_; rintro e w1 ⟨rfl, hb⟩)
      go_ret
      exact ⟨rfl, hb⟩
    · have d2 : decide ((m : Int) < (n : Int)) = false := decide_eq_false (by omega)
      have d3 : decide (m < n) = false := decide_eq_false g2
      have hn40 : n ≤ 40 := by omega
      have hnm : n ≤ m := by omega
      clear g1 g2
      have O0 := Lib.hid (OrA.new sc)
      rw [HN.out] at O0
      go_enter Try.func4, Try.ntmps4
      go_wp2_with fail
      refine (first14_any _).mono ?_
      rintro e w1 ⟨rfl, hb⟩
      have H0 := Lib.hid (hsNew hb (n : Int) (by omega) (by omega))
      clear hb
      go_wp2_with fail
      refine H0.out.mono ?_
      rintro e w2 ⟨u, rfl, hG⟩
      obtain ⟨p, rfl⟩ := hG.ptr
      have HG := Lib.hid hG
      clear hG
      generalize newH (n : Int) = h0 at *
      go_wp2_with fail
      clear d1 d2 d3
      go_loopw [7] (fun i wr => ∃ (k : Nat) (h : Hp), k ≤ n ∧ i = .int .i64 (k : Int) ∧ HSt w (.pointer (some ⟨p, 0, none⟩)) h wr ∧ OrA sc h k) (fun i _ => n - (intOf i).toNat)
      case atStart => exact ⟨0, h0, Nat.zero_le _, rfl, HG.out, O0.out⟩
      case round =>
        obtain ⟨k, h, hk, rfl, hG, o⟩ := hrel
        clear HG O0
        have HG := Lib.hid hG
        have HO := Lib.hid o
        have HBW := Lib.hid hG.bel
        clear hG o
        by_cases hlt : k < n
        · obtain ⟨b, off, ha, hbl, hc⟩ := HX.out.resolve_left (by omega)
          subst ha
          have y0 := (HBW.out.cell (p := ⟨b, off + k, none⟩) hbl).trans (hc k hlt)
          obtain ⟨z1, z2⟩ := HSB.out k hlt
          have hst := HO.out.step (by rw [HN.out]; exact hlt)
          clear hc
          generalize sc.getD k 0 = s at *
          have HNB := Lib.hid (fun V => number_any s 9 V (by decide) (by decide) z1 z2)
          have m1 := Int.emod_nonneg s (show (9 : Int) ≠ 0 by decide)
          have m2 := Int.emod_lt_of_pos s (show (0 : Int) < 9 by decide)
          generalize s % 9 = r at *
          have HBP := Lib.hid (fun V (hV : Below wr.heap.size wr V) => hsBump (HG.out.keep hV) ((k : Int) + 1) r (by omega) (by omega))
          rw [hst.1] at HBP
          have HST := Lib.hid hst.2
          have HYW : Hid (∀ V, Below w.heap.size w V → V.cell? ⟨b, off + k, none⟩ = some (.int .i64 s)) := fun V hV => (hV.cell (p := ⟨b, off + k, none⟩) hbl).trans (by
            have := y0
            rwa [HBW.out.cell (p := ⟨b, off + k, none⟩) hbl] at this)
          have Y0 := Lib.hid (HYW.out _ HBW.out)
          have Y1 := Lib.hid (HYW.out _ HBW.out.drew)
          have w1' : IntKind.i64.wrap ((k : Int) + 1) = (k : Int) + 1 := IntWalk.i64_in _ (by omega)
          have hlt2 : (k : Int) < (n : Int) := by omega
          have hk0 : (0 : Int) ≤ (k : Int) := by omega
          have hrr : (r != r) = false := by simp
          clear hst hlt
          go_upto_region 12 with fail
          clear y0
          go_region_held3 (fun V => V.cell? ⟨b, off + k, none⟩ = some (.int .i64 s)) (first | (with_reducible exact Y0.out) | (with_reducible exact Y1.out) | (with_reducible exact Y2.out)) (first
            | (go_simp; go_at_call 17; refine (HNB.out _).mono ?_; rintro e w' ⟨rfl, rfl⟩)
            | (go_simp; go_at_call 13; refine (HBP.out _ (Below.refl _ _).drew).mono ?_; rintro e w3 ⟨rfl, hG3⟩; have Y2 := Lib.hid (HYW.out _ hG3.bel); have HG3 := Lib.hid hG3; clear hG3))
          all_goals
            clear HBP HNB HYW Y0 Y1
            go_wp2_with fail
            go_roundw
            case rel => exact ⟨k + 1, _, by omega, by go_num, HG3.out, HST.out⟩
            case measure => go_light; simp [intOf]; omega
        · have hkn : k = n := by omega
          have o2 := HO.out
          rw [hkn, ← HN.out] at o2
          have hob := o2.done
          rw [HN.out] at hob
          have HOB := Lib.hid hob
          have e1 : decide ((k : Int) < (n : Int)) = false := decide_eq_false (by omega)
          have e2 : decide (k < n) = false := decide_eq_false hlt
          have HBS := Lib.hid (fun W' (hb : Below wr.heap.size wr W') (hc : CelG Value.bool false W' wr.heap.size (List.replicate (n + 1) false)) => SQ.make HG.out hb rfl hc)
          clear hkn o2 hob hlt HO
          go_wp2_with (at_make; refine wpList_makeG Value.bool false _ _ 1 Try.underlying36 infoBoo rfl (by decide) rfl _ _ rfl _ (n + 1) rfl rfl (by omega) ?_; intro w5 hm5 hb5 hs5; have HS5 := Lib.hid (HBS.out w5 hb5 hm5); clear hm5 hb5 hs5)
          have HQW := Lib.hid HS5.out.row.2
          generalize wr.heap.size = q at *
          clear HG HBW HBS
          go_loopw [9, 10, 11, 12, 13, 14, 15, 16] (fun lastv i _ _ _ _ _ _ wr => ∃ (j : Nat) (h : Hp) (sn : List Bool) (last : Int), j ≤ n ∧ i = .int .i64 (j : Int) ∧ lastv = .int .i64 last ∧ SQ w (.pointer (some ⟨p, 0, none⟩)) h q sn wr ∧ OrB sc h sn j last) (fun _ i _ _ _ _ _ _ _ => n - (intOf i).toNat)
          case atStart => exact ⟨0, h, _, 9, Nat.zero_le _, rfl, rfl, HS5.out, HOB.out⟩
          case round =>
            obtain ⟨j, hp, sn, last, hj, rfl, rfl, hsq, hob⟩ := hrel
            clear HOB HS5
            have HS := Lib.hid hsq
            have HO := Lib.hid hob
            have HBW := Lib.hid hsq.hst.bel
            have HWF := Lib.hid hsq.hst.wf
            have hsz := HBW.out.size
            clear hsq hob
            by_cases hjn : j < n
            · have HL1 : Hid (bestK hp.ss hp.ins 1 = (-1, [])) := best_none (fun v hv => by rw [show v = 0 by omega]; exact HWF.out.i0)
              go_wp2_with fail
              have HS0 := HS
              have HBL : Hid (bestL hp = (bestK hp.ss hp.ins (n + 1)).2) := by unfold Hid bestL; rw [HO.out.ls, HN.out]
              generalize hW0 : wr = W0 at *
              clear hW0
              go_loopw [11, 12, 13, 14] (fun lv bv i _ wr => ∃ (kv : Nat) (B : Int) (l : List Int), kv ≤ n ∧ i = .int .i64 ((kv : Int) + 1) ∧ bv = .int .i64 B ∧ Hid (bestK hp.ss hp.ins (kv + 1) = (B, l)) ∧ wr.ownsRow W0.heap.size 3 1 lv l.length (l.map (Value.int .i64)) ∧ l.length ≤ kv ∧ Below W0.heap.size W0 wr) (fun _ _ i _ _ => n + 1 - (intOf i).toNat)
              case atStart => exact ⟨0, -1, [], Nat.zero_le _, rfl, rfl, HL1.out, World.ownsRow_nil _ _ _ _, by simp, Below.refl _ _⟩
              case round =>
                obtain ⟨kv, B, l, hkv, rfl, rfl, hB, ho, hll, hb⟩ := hrel
                clear HL1
                have HBN := Lib.hid hb
                have HLO := Lib.hid ho
                have hsz2 : W0.heap.size ≤ wr.heap.size := hb.size
                have HS1 := Lib.hid (HS0.out.keep hb)
                clear ho hb
                by_cases hlt : kv < n
                · obtain ⟨b, off, ha, hbl, hc⟩ := HX.out.resolve_left (by omega)
                  have y0 := (HS1.out.hst.bel.cell (p := ⟨b, off + kv, none⟩) hbl).trans (hc kv hlt)
                  obtain ⟨z1, z2⟩ := HSB.out kv hlt
                  have hsv := HO.out.sv (kv + 1) (by omega) (by rw [HN.out]; omega)
                  rw [show kv + 1 - 1 = kv by omega] at hsv
                  have x1 := HS1.out.row.1.cells (kv + 1) (by rw [HO.out.sl, HN.out]; omega)
                  rw [HO.out.iv (kv + 1) (by omega) (by rw [HN.out]; omega)] at x1
                  have HK1 := Lib.hid (fun hc => @bestK_skip hp.ss hp.ins (kv + 1) hc)
                  have HK2 := Lib.hid (fun h1 h2 => @bestK_new hp.ss hp.ins (kv + 1) h1 h2)
                  have HK3 := Lib.hid (fun h1 h2 => @bestK_more hp.ss hp.ins (kv + 1) h1 h2)
                  rw [hB.out, hsv] at HK1 HK2 HK3
                  rw [show ((kv + 1 : Nat) : Int) = (kv : Int) + 1 by omega] at HK2 HK3
                  clear hc hsv
                  generalize sc.getD kv 0 = s0 at *
                  have HNB := Lib.hid (fun V => number_any s0 9 V (by decide) (by decide) z1 z2)
                  generalize s0 % 9 = s at *
                  generalize hp.ins.getD (kv + 1) false = xin at *
                  have hi1 : (0 : Int) ≤ (kv : Int) := by omega
                  have hi2 : (kv : Int) < (n : Int) := by omega
                  subst ha
                  have hd0 : decide ((kv : Int) + 1 ≤ (n : Int)) = true := decide_eq_true (by omega)
                  have hl100 : l.length ≤ 100 := by omega
                  cases xin with
                  | false =>
                    have HE := Lib.hid (HK1.out (.inl rfl))
                    have x2 : wr.cell? ⟨q, kv + 1, none⟩ = some (.bool true) := x1
                    clear HK1 HK2 HK3 hB x1
                    go_wp2_with (go_at_call 17; refine (HNB.out _).mono ?_; rintro e w' ⟨rfl, rfl⟩)
                    go_roundw
                    case rel => exact ⟨kv + 1, B, l, by omega, by go_num, rfl, HE.out, HLO.out, by omega, HBN.out⟩
                    case measure => go_light; simp [intOf]; omega
                  | true =>
                    have x2 : wr.cell? ⟨q, kv + 1, none⟩ = some (.bool false) := x1
                    rcases Int.lt_trichotomy s B with hc | hc | hc
                    · have HE := Lib.hid (HK1.out (.inr hc))
                      have hd : decide (s < B) = true := decide_eq_true hc
                      clear HK1 HK2 HK3 hB x1 hc
                      go_wp2_with (go_at_call 17; refine (HNB.out _).mono ?_; rintro e w' ⟨rfl, rfl⟩)
                      go_roundw
                      case rel => exact ⟨kv + 1, B, l, by omega, by go_num, rfl, HE.out, HLO.out, by omega, HBN.out⟩
                      case measure => go_light; simp [intOf]; omega
                    · have HE := Lib.hid (HK3.out rfl hc.symm)
                      subst hc
                      have hd : decide (s < s) = false := decide_eq_false (Int.lt_irrefl _)
                      have hd2 : ¬ s < s := Int.lt_irrefl _
                      clear HK1 HK2 HK3 hB x1
                      go_wp2_with (first | (go_at_call 17; refine (HNB.out _).mono ?_; rintro e w' ⟨rfl, rfl⟩) | (at_builtin; refine wpList_app1 rfl _ _ rfl wr W0.heap.size _ l.length l ((kv : Int) + 1) HLO.out hsz2 (by omega) rfl rfl ?_; intro v1 w6 ho1 hap1; have HO1 := Lib.hid ho1; have HB1 := Lib.hid (HBN.out.trans (hap1.below.mono (Nat.le_refl _))); clear ho1 hap1))
                      go_roundw
                      case rel => exact ⟨kv + 1, s, l ++ [(kv : Int) + 1], by omega, by go_num, rfl, HE.out, by rw [List.length_append]; exact HO1.out, by simp; omega, HB1.out⟩
                      case measure => go_light; simp [intOf]; omega
                    · have HE := Lib.hid (HK2.out rfl hc)
                      have hd : decide (s < B) = false := decide_eq_false (by omega)
                      have hd2 : decide (B < s) = true := decide_eq_true hc
                      clear HK1 HK2 HK3 hB x1 hc
                      go_wp2_with (first | (go_at_call 17; refine (HNB.out _).mono ?_; rintro e w' ⟨rfl, rfl⟩) | (at_builtin; refine wpList_app1 rfl _ _ rfl wr W0.heap.size _ 0 [] ((kv : Int) + 1) (World.ownsRow_nil _ _ _ _) hsz2 (by omega) rfl rfl ?_; intro v1 w6 ho1 hap1; have HO1 := Lib.hid ho1; have HB1 := Lib.hid (HBN.out.trans (hap1.below.mono (Nat.le_refl _))); clear ho1 hap1))
                      go_roundw
                      case rel => exact ⟨kv + 1, s, [(kv : Int) + 1], by omega, by go_num, rfl, HE.out, HO1.out, by simp, HB1.out⟩
                      case measure => go_light; simp [intOf]; omega
                · have hkn : kv = n := by omega
                  have hbl : bestL hp = l := by rw [HBL.out, ← hkn, hB.out]
                  have hd0 : decide ((kv : Int) + 1 ≤ (n : Int)) = false := decide_eq_false (by omega)
                  have hd1 : decide ((kv : Int) < (n : Int)) = false := decide_eq_false (by omega)
                  have hd2 : decide (kv < n) = false := decide_eq_false (by omega)
                  clear hkn hB hlt
                  obtain ⟨b, off, ha, hbb, hc⟩ := HY.out.resolve_left (by omega)
                  subst ha
                  have y0 := (HS1.out.hst.bel.cell (p := ⟨b, off + j, none⟩) hbb).trans (hc j (by omega))
                  clear hc
                  generalize ts.getD j 0 = tj at *
                  obtain ⟨q1, q2⟩ := and63 tj
                  have hne : bestL hp ≠ [] := HO.out.some HWF.out (by rw [HN.out]; exact hjn)
                  obtain ⟨v, v1, v2, v3, v4, v5, v6, v7, v8⟩ := HO.out.pop HWF.out (by rw [HN.out]; exact hjn) (bits .and .i64 tj 63)
                  rw [HN.out] at v3
                  have hlp : 0 < l.length := by rw [← hbl]; exact List.length_pos_iff.2 hne
                  obtain ⟨g, cg, hlv⟩ := own_at HLO.out hlp
                  have hv9 : popV hp (bits .and .i64 tj 63) = l.getD (bits .and .i64 tj 63 % (l.length : Int)).toNat 0 := by unfold popV; rw [if_neg hne, hbl]
                  rw [v1] at hv9
                  have hmm1 := Int.emod_nonneg (bits .and .i64 tj 63) (show (l.length : Int) ≠ 0 by omega)
                  have hmm2 := Int.emod_lt_of_pos (bits .and .i64 tj 63) (show (0 : Int) < (l.length : Int) by omega)
                  have HSP := Lib.hid (sqPop2 HS0.out HBN.out HLO.out (bits .and .i64 tj 63) (by omega) (by omega))
                  rw [v1, v4] at HSP
                  have HTY : Hid (∀ V, Below w.heap.size w V → V.cell? ⟨b, off + j, none⟩ = some (.int .i64 tj)) := fun V hV => (hV.cell (p := ⟨b, off + j, none⟩) hbb).trans (by
                    have := y0
                    rwa [HS1.out.hst.bel.cell (p := ⟨b, off + j, none⟩) hbb] at this)
                  subst hlv
                  have V6 := Lib.hid v6
                  have V8 := Lib.hid v8
                  have V7 := Lib.hid v7
                  have V5 := Lib.hid v5
                  have hlk : l.length ≤ 100 := by omega
                  have HSN : Hid (sn.length = n + 1) := by unfold Hid; rw [HO.out.sl, HN.out]
                  clear v1 v4 v5 v6 v7 v8 hne hbl HBL
                  generalize popH hp (bits .and .i64 tj 63) = h2 at *
                  generalize hT : bits .and .i64 tj 63 = T at *
                  obtain ⟨qi, hqi⟩ := Int.eq_ofNat_of_zero_le hmm1
                  rw [hqi] at hv9 hmm2
                  rw [Int.toNat_natCast] at hv9
                  have HQI := Lib.hid hqi
                  have HV9 := Lib.hid hv9
                  have HLL : Hid (qi < l.length) := by unfold Hid; omega
                  have hmq : T.tmod (l.length : Int) = (qi : Int) := by rw [Int.tmod_eq_emod_of_nonneg q1]; exact hqi
                  have HMQ := Lib.hid hmq
                  clear hqi hv9 hmm1 hmq HO HWF HLO
                  go_wp2_with fail
                  refine HSP.out.mono ?_
                  rintro e w6 ⟨rfl, hs6, ho6⟩
                  have x5 := hs6.row.1.cells v (by rw [HSN.out]; omega)
                  rw [V5.out] at x5
                  have f6 := hs6.row.1.free v
                  have y6 := HTY.out _ hs6.hst.bel
                  have z6 : w6.cell? ⟨g, qi, none⟩ = some (.int .i64 (l.getD qi 0)) := own_cell ho6 (by simp [List.getD, HLL.out])
                  rw [← HV9.out] at z6
                  have H1 := Lib.hid (hsHas hs6.hst (v : Int))
                  rw [V6.out] at H1
                  have H2 := Lib.hid (hsScore hs6.hst (v : Int))
                  have HSS := Lib.hid (hs6.set v true)
                  have hsl := V7.out
                  have V9 := Lib.hid V8.out
                  clear hs6 ho6 HSP y0 V8 V7 V5 V6 HS0 HBN HS1 HS HTY
                  generalize scoreH h2 (v : Int) = sv at *
                  have hd5 : decide (last < sv) = false := decide_eq_false (by omega)
                  have hvv : ((v : Int) != (v : Int)) = false := by simp
                  have hvn : (v : Int) < (n : Int) + 1 := by omega
                  have hv0 : (0 : Int) ≤ (v : Int) := by omega
                  have hq0 : (0 : Int) ≤ (qi : Int) := by omega
                  have hmq := HMQ.out
                  have hmq2 := HQI.out
                  clear hsl
                  go_wp2_with fail
                  refine H1.out.mono ?_
                  rintro e w' ⟨rfl, rfl⟩
                  go_wp2_with fail
                  refine H2.out.mono ?_
                  rintro e w' ⟨rfl, rfl⟩
                  go_wp2_with fail
                  refine H2.out.mono ?_
                  rintro e w' ⟨rfl, rfl⟩
                  clear H1 H2 y6 z6
                  go_wp2_with fail
                  go_roundw
                  case rel => exact ⟨j + 1, h2, _, sv, by omega, by go_num, rfl, HSS.out, V9.out⟩
                  case measure => go_light; simp [intOf]; omega
            · have hjn2 : j = n := by omega
              have hon := HO.out
              rw [hjn2, ← HN.out] at hon
              obtain ⟨b1, b2⟩ := hon.none HWF.out
              have hv : popV hp 0 = 0 := by unfold popV; rw [if_pos b1]
              have hbb : popB hp = false := by unfold popB; rw [b1]; rfl
              have hq : popH hp 0 = hp := by unfold popH; rw [if_pos b1]
              have H1 := Lib.hid (hsPop HS.out.hst 0 (by decide) (by decide))
              rw [hv, hbb, hq] at H1
              have e3 : decide ((j : Int) < (n : Int)) = false := decide_eq_false (by omega)
              have e4 : decide (j < n) = false := decide_eq_false hjn
              have HM0 : Hid (((manyH hp : Nat) : Int) = 0) := by unfold Hid; rw [b2]; rfl
              clear hjn2 hon b1 b2 hv hbb hq hjn HO HWF
              go_wp2_with fail
              refine H1.out.mono ?_
              rintro e w6 ⟨rfl, hG6⟩
              have H2 := Lib.hid (hsLen hG6)
              rw [HM0.out] at H2
              have HBE := Lib.hid hG6.bel
              clear hG6
              go_wp2_with fail
              refine H2.out.mono ?_
              rintro e w' ⟨rfl, rfl⟩
              go_wp2_with fail
              go_ret
              exact ⟨rfl, HBE.out⟩
end Go.Proofs.Yteiidcogjmekhaa
