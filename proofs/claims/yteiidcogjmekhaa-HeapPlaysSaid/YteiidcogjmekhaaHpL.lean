/- The contract of heap's tell: behind it the tree is right. Conditions: the heap lies in memory as 'HpAt' says, no more than 64 leaves; every node's but those from 'first' to 'last', and those above, are right before. -/
import Derived.Test.YteiidcogjmekhaaHpC
import Derived.Deep.RegionHeld3
import Derived.WalkSmall
import Derived.Deep.Draws
import Derived.Deep.Light
namespace Go.Proofs.Yteiidcogjmekhaa
open Go.RowKit

def TellPost (w : World) (p a b t ca cb ct : Nat) (ss : List Int) (ins : List Bool) (m : Int) (D : Nat) (e : Ending) (w' : World) : Prop :=
  e = .returned (.tuple #[]) ∧ (∃ T', HpAt w' p a b t ca cb ct ss ins m T' ∧ TreeOk D ss ins T') ∧ Chg [t] w w'

set_option maxRecDepth 8000 in
set_option maxHeartbeats 2000000 in
theorem htell_any {p a b t ca cb ct : Nat} {ss : List Int} {ins : List Bool} {m : Int} {T : List Nd} (D first last : Nat) (w : World) (h : HpAt w p a b t ca cb ct ss ins m T) (hT : TellA D ss ins first last first T)
    (hl : ins.length = ss.length) (hf : 1 ≤ first) (hfl : first ≤ last + 1) (hls : last < ss.length) (hsD : ss.length ≤ 2 ^ D) (hD : 2 ^ D ≤ 1000) :
    Calls Try.prog 25 #[.pointer (some ⟨p, 0, none⟩), .int .i64 (first : Int), .int .i64 (last : Int)] w (TellPost w p a b t ca cb ct ss ins m D) := by
  have HT := Lib.hid hT
  have HH := Lib.hid h
  have c3 := h.c3
  have hTL := hT.len
  generalize hW : 2 ^ D = W at *
  have hq : ((T.length : Nat) : Int) = 2 * (W : Int) := by omega
  rw [hTL] at c3
  have HW := Lib.hid hW
  have HSD := Lib.hid hsD
  clear h hT hTL hq hW
  go_enter Try.func25, Try.ntmps25
  go_wp2_with fail
  clear c3
  go_loopw [7] (fun i wr => ∃ (k : Nat) (T' : List Nd), first ≤ k ∧ k ≤ last + 1 ∧ i = .int .i64 (k : Int) ∧ HpAt wr p a b t ca cb ct ss ins m T' ∧ TellA D ss ins first last k T' ∧ Chg [t] w wr) (fun i _ => last + 1 - (intOf i).toNat)
  case atStart => exact ⟨first, T, Nat.le_refl _, hfl, rfl, HH.out, HT.out, Chg.refl _ _⟩
  case round =>
    obtain ⟨k, T', hk1, hk2, rfl, h, hT, hC⟩ := hrel
    have HA := Lib.hid h
    have HB := Lib.hid hT
    have HC := Lib.hid hC
    have hTL := hT.len
    rw [HW.out] at hTL
    have c0 := h.c0
    have c1 := h.c1
    have c3 := h.c3
    clear hT hC
    by_cases hlt : k ≤ last
    · have hkt : W + k < T'.length := by omega
      have hki : k < ins.length := by omega
      have x0 := h.score (i := k) (by omega)
      have x1 := h.isin (i := k) hki
      obtain ⟨n0, n1⟩ := h.node (i := W + k) hkt
      have f0 := own_frozen h.rt ((W + k) * 2)
      have f1 := own_frozen h.rt ((W + k) * 2 + 1)
      have HS0 := Lib.hid (h.setNode (W + k) 0 0 hkt)
      rw [hTL] at c3
      rw [hl] at c1
      clear h
      have HST := Lib.hid (HB.out.step hk1 hlt (by rw [HW.out]; omega))
      rw [HW.out] at HST
      have HLF := Lib.hid (show leafI ss ins k = if ins.getD k false = true then (ss.getD k 0, 1) else z2 from rfl)
      have HC0 : Hid (Chg [t] w ((wr.setCell ⟨t, (W + k) * 2, none⟩ (.int .i64 0)).setCell ⟨t, (W + k) * 2 + 1, none⟩ (.int .i64 0))) := (HC.out.setCell (.inl (by simp)) _).setCell (.inl (by simp)) _
      cases hb : ins.getD k false with
      | false =>
        rw [hb] at x1 HLF
        clear hb
        go_wp2_with fail
        go_roundw
        case rel => exact ⟨k + 1, _, by omega, by omega, by go_num, HS0.out, by have := HST.out; rw [HLF.out] at this; exact this, HC0.out⟩
        case measure => go_light; simp [intOf]; omega
      | true =>
        rw [hb] at x1 HLF
        clear hb
        rw [if_pos rfl] at HLF
        go_upto_region 6 with fail
        clear n0 n1 f0 f1 x0 x1 c0 c1 c3
        generalize (wr.setCell ⟨t, (W + k) * 2, none⟩ (.int .i64 0)).setCell ⟨t, (W + k) * 2 + 1, none⟩ (.int .i64 0) = wz at *
        have h := HS0.out
        have hTL2 : (T'.set (W + k) (0, 0)).length = 2 * W := by rw [List.length_set]; exact hTL
        have c0 := h.c0
        have c3 := h.c3
        have x0 := h.score (i := k) (by omega)
        obtain ⟨n0, n1⟩ := h.node (i := W + k) (by omega)
        have f0 := own_frozen h.rt ((W + k) * 2)
        have f1 := own_frozen h.rt ((W + k) * 2 + 1)
        have HS1 := Lib.hid (h.setNode (W + k) (ss.getD k 0) 1 (by omega))
        rw [List.set_set] at HS1
        rw [hTL2] at c3
        clear h hTL2 HS0
        generalize ss.getD k 0 = sc at *
        go_region
        go_wp2_with fail
        go_roundw
        case rel => exact ⟨k + 1, _, by omega, by omega, by go_num, HS1.out.below (Below.refl _ _).drew, by have := HST.out; rw [HLF.out] at this; exact this, ((HC0.out.setCell (.inl (by simp)) _).setCell (.inl (by simp)) _).drew⟩
        case measure => go_light; simp [intOf]; omega
    · have hk : k = last + 1 := by omega
      have HBB := Lib.hid (HB.out.done (by omega) hf (by rw [HW.out]; omega))
      rw [HW.out] at HBB
      have e1 : ((W : Int) + (first : Int)) / 2 = (((W + first) / 2 : Nat) : Int) := by omega
      have e2 : ((W : Int) + (last : Int)) / 2 = (((W + last) / 2 : Nat) : Int) := by omega
      have hlo : (W + first) / 2 ≤ 1500 := by omega
      have E1 := Lib.hid e1
      have E2 := Lib.hid e2
      have hd : decide ((k : Int) ≤ (last : Int)) = false := decide_eq_false (by omega)
      clear e1 e2 c0 c1 c3 h HB hk
      go_wp2_with fail
      rw [E1.out, E2.out]
      have HLO : Hid ((W + first) / 2 ≤ 1500) := hlo
      generalize (W + first) / 2 = lo0 at *
      generalize (W + last) / 2 = hi0 at *
      clear E1 E2 hlo
      go_loopw [8, 9, 10] (fun lv hv _ wr => ∃ (lo hi : Nat) (T' : List Nd), lo ≤ 1500 ∧ lv = .int .i64 (lo : Int) ∧ hv = .int .i64 (hi : Int) ∧ HpAt wr p a b t ca cb ct ss ins m T' ∧ TellB D ss ins lo hi T' ∧ Chg [t] w wr) (fun lv _ _ _ => (intOf lv).toNat)
      case atStart => exact ⟨_, _, _, HLO.out, rfl, rfl, HA.out, HBB.out, HC.out⟩
      case round =>
        obtain ⟨lo, hi, T2, hlo, rfl, rfl, h2, hT2, hC2⟩ := hrel
        clear HA HBB HC HLO
        have HA := Lib.hid h2
        have HB := Lib.hid hT2
        have HC := Lib.hid hC2
        clear h2 hT2 hC2
        by_cases h0 : 0 < lo
        · have HR := Lib.hid (HB.out.row h0)
          go_wp2_with fail
          have hhi := HR.out.hi_lt
          rw [HW.out] at hhi
          have HRH : Hid (HpAt wr p a b t ca cb ct ss ins m T2) := HA.out
          clear HA HB
          go_loopw [10] (fun i wr => ∃ (n : Nat) (T' : List Nd), lo ≤ n ∧ n ≤ 1500 ∧ i = .int .i64 (n : Int) ∧ HpAt wr p a b t ca cb ct ss ins m T' ∧ TellC D ss ins lo hi n T' ∧ Chg [t] w wr) (fun i _ => hi + 1 - (intOf i).toNat)
          case atStart => exact ⟨_, _, Nat.le_refl _, hlo, rfl, HRH.out, HR.out, HC.out⟩
          case round =>
            obtain ⟨n, T3, hn1, hn2, rfl, h3, hT3, hC3⟩ := hrel
            clear HRH HC HR
            have HA := Lib.hid h3
            have HB := Lib.hid hT3
            have HC := Lib.hid hC3
            have hTL3 := hT3.len
            rw [HW.out] at hTL3
            clear hT3 hC3
            by_cases hle : n ≤ hi
            · have c3 := h3.c3
              rw [hTL3] at c3
              obtain ⟨x0, x1⟩ := h3.node (i := 2 * n) (by omega)
              obtain ⟨y0, y1⟩ := h3.node (i := 2 * n + 1) (by omega)
              have hxb := HB.out.bnd.at (2 * n) (by omega)
              have hyb := HB.out.bnd.at (2 * n + 1) (by omega)
              rw [hTL3] at hxb hyb
              have HST := Lib.hid (HB.out.step h0 hn1 hle)
              have i1 : IntKind.i64.wrap (2 * (n : Int)) = ((2 * n : Nat) : Int) := by rw [IntWalk.i64_in _ (by omega)]; omega
              have i2 : IntKind.i64.wrap (((2 * n : Nat) : Int) + 1) = ((2 * n + 1 : Nat) : Int) := by rw [IntWalk.i64_in _ (by omega)]; omega
              have hX : (0 : Int) ≤ ((2 * n : Nat) : Int) ∧ ((2 * n : Nat) : Int) < ((2 * W : Nat) : Int) ∧ (0 : Int) ≤ ((2 * n + 1 : Nat) : Int) ∧ ((2 * n + 1 : Nat) : Int) < ((2 * W : Nat) : Int) ∧ 2 * n ≠ n ∧ 2 * n + 1 ≠ n := by omega
              clear h3
              generalize T3.getD (2 * n) z2 = x at *
              generalize T3.getD (2 * n + 1) z2 = y at *
              generalize 2 * n + 1 = Y at *
              generalize 2 * n = X at *
              obtain ⟨xa, xb⟩ := x
              obtain ⟨ya, yb⟩ := y
              simp only at x0 x1 y0 y1 hxb hyb HST
              have HBT := Lib.hid (fun V => hbetter_any xa xb ya yb V (by omega) (by omega))
              clear hxb hyb
              have HCC : Hid (wr.cell? ⟨p, 3, none⟩ = some (.slice (some ⟨t, 0, none⟩) (2 * W) ct) ∧ (wr.cell? ⟨t, X * 2, none⟩ = some (.int .i64 xa) ∧ wr.cell? ⟨t, X * 2 + 1, none⟩ = some (.int .i64 xb)) ∧ wr.cell? ⟨t, Y * 2, none⟩ = some (.int .i64 ya) ∧ wr.cell? ⟨t, Y * 2 + 1, none⟩ = some (.int .i64 yb)) := ⟨c3, ⟨x0, x1⟩, y0, y1⟩
              have hntl : n < T3.length := by rw [hTL3]; omega
              have HCW : Hid (∀ V, Below wr.heap.size wr V → V.cell? ⟨p, 3, none⟩ = some (.slice (some ⟨t, 0, none⟩) (2 * W) ct) ∧ (V.cell? ⟨t, X * 2, none⟩ = some (.int .i64 xa) ∧ V.cell? ⟨t, X * 2 + 1, none⟩ = some (.int .i64 xb)) ∧ V.cell? ⟨t, Y * 2, none⟩ = some (.int .i64 ya) ∧ V.cell? ⟨t, Y * 2 + 1, none⟩ = some (.int .i64 yb)) := fun V hV => by
                have htl := HA.out.lt t (by simp)
                have hpl := HA.out.lt p (by simp)
                exact ⟨(hV.cell (p := ⟨p, 3, none⟩) hpl).trans c3, ⟨(hV.cell (p := ⟨t, X * 2, none⟩) htl).trans x0, (hV.cell (p := ⟨t, X * 2 + 1, none⟩) htl).trans x1⟩, (hV.cell (p := ⟨t, Y * 2, none⟩) htl).trans y0, (hV.cell (p := ⟨t, Y * 2 + 1, none⟩) htl).trans y1⟩
              have HCD := Lib.hid (HCW.out _ (Below.refl _ _).drew)
              have HFN : Hid (∀ V, Below wr.heap.size wr V → (V.cell? ⟨t, n * 2, none⟩ = some (.int .i64 (T3.getD n z2).1) ∧ V.cell? ⟨t, n * 2 + 1, none⟩ = some (.int .i64 (T3.getD n z2).2) ∧ V.frozen? ⟨t, n * 2, none⟩ = false ∧ V.frozen? ⟨t, n * 2 + 1, none⟩ = false) ∧
                  (∀ z1 z2 : Int, HpAt ((V.setCell ⟨t, n * 2, none⟩ (.int .i64 z1)).setCell ⟨t, n * 2 + 1, none⟩ (.int .i64 z2)) p a b t ca cb ct ss ins m (T3.set n (z1, z2)) ∧ Chg [t] w ((V.setCell ⟨t, n * 2, none⟩ (.int .i64 z1)).setCell ⟨t, n * 2 + 1, none⟩ (.int .i64 z2))) ∧
                  ∀ z1 z2 : Int, ∀ V', V' = ((V.setCell ⟨t, n * 2, none⟩ (.int .i64 z1)).setCell ⟨t, n * 2 + 1, none⟩ (.int .i64 z2)) → V'.cell? ⟨p, 3, none⟩ = some (.slice (some ⟨t, 0, none⟩) (2 * W) ct) ∧ (V'.cell? ⟨t, X * 2, none⟩ = some (.int .i64 xa) ∧ V'.cell? ⟨t, X * 2 + 1, none⟩ = some (.int .i64 xb)) ∧ V'.cell? ⟨t, Y * 2, none⟩ = some (.int .i64 ya) ∧ V'.cell? ⟨t, Y * 2 + 1, none⟩ = some (.int .i64 yb)) := fun V hV => by
                have hA := HA.out.below hV
                obtain ⟨n0, n1⟩ := hA.node hntl
                obtain ⟨s3, ⟨sx0, sx1⟩, sy0, sy1⟩ := HCW.out V hV
                obtain ⟨_, _, _, _, hne1, hne2⟩ := hX
                refine ⟨⟨n0, n1, own_frozen hA.rt _, own_frozen hA.rt _⟩, ?_, fun z1 z2 V' e => ?_⟩
                rotate_left
                · rw [e]
                  have hpt : t ≠ p := fun e => hA.pt e.symm
                  exact ⟨(set_off (.inl hpt)).trans ((set_off (.inl hpt)).trans s3), ⟨(set_off (.inr (by omega))).trans ((set_off (.inr (by omega))).trans sx0), (set_off (.inr (by omega))).trans ((set_off (.inr (by omega))).trans sx1)⟩, (set_off (.inr (by omega))).trans ((set_off (.inr (by omega))).trans sy0), (set_off (.inr (by omega))).trans ((set_off (.inr (by omega))).trans sy1)⟩
                exact fun z1 z2 => ⟨hA.setNode n z1 z2 hntl, ((HC.out.trans (T := []) (Chg.of_below hV) (by intro i hi; cases hi)).setCell (.inl (by simp)) _).setCell (.inl (by simp)) _⟩
              clear c3 x0 x1 y0 y1 HA
              obtain ⟨hX0, hX1, hY0, hY1, hne1, hne2⟩ := hX
              have hn0 : (0 : Int) ≤ (n : Int) := Int.natCast_nonneg n
              have hn3 : (n : Int) < ((2 * W : Nat) : Int) := by omega
              have hX3 : (X : Int) < 2 * (W : Int) := by omega
              have hY3 : (Y : Int) < 2 * (W : Int) := by omega
              have hn4 : (n : Int) < 2 * (W : Int) := by omega
              go_wp2_with fail
              go_region_held3 (fun V => V.cell? ⟨p, 3, none⟩ = some (.slice (some ⟨t, 0, none⟩) (2 * W) ct) ∧ (V.cell? ⟨t, X * 2, none⟩ = some (.int .i64 xa) ∧ V.cell? ⟨t, X * 2 + 1, none⟩ = some (.int .i64 xb)) ∧ V.cell? ⟨t, Y * 2, none⟩ = some (.int .i64 ya) ∧ V.cell? ⟨t, Y * 2 + 1, none⟩ = some (.int .i64 yb)) (first | (with_reducible exact HCC.out) | (with_reducible exact HCD.out) | (with_reducible exact HC3.out) | (with_reducible exact HC4.out _ rfl)) (first
                | (go_simp; go_at_call 30; refine (HBT.out _).mono ?_; rintro e w3 ⟨⟨za, zb, rfl, hz⟩, hb3⟩; have hbw : Below wr.heap.size wr w3 := (by first | exact hb3 | exact (Below.refl _ _).drew.trans hb3); have HC3 := Lib.hid (HCW.out w3 hbw); obtain ⟨⟨g0, g1, gf0, gf1⟩, hset, hset2⟩ := HFN.out w3 hbw; have HC4 := Lib.hid (hset2 za zb); clear hset2; have HS := Lib.hid (hset za zb); have HZ := Lib.hid hz; clear hset hz hb3 hbw))
              all_goals
                have hz := HZ.out
                have hst := HST.out
                rw [hz] at hst
                have HST2 := Lib.hid hst
                clear hz hst HST HBT HC3 HC4 HCC HCD HCW HFN
                go_wp2_with fail
                go_roundw
                case rel => exact ⟨n + 1, _, by omega, by omega, by go_num, HS.out.1, HST2.out, HS.out.2⟩
                case measure => go_light; simp [intOf]; omega
            · have HU := Lib.hid (HB.out.up (by omega))
              have hdd : decide ((n : Int) ≤ (hi : Int)) = false := decide_eq_false (by omega)
              clear h3 HB
              go_wp2_with fail
              go_roundw
              case rel => exact ⟨lo / 2, hi / 2, _, by omega, by go_num, by go_num, HA.out, HU.out, HC.out⟩
              case measure => go_light; simp [intOf]; omega
        · have hlo0 : lo = 0 := by omega
          have HE : Hid (TreeOk D ss ins T2) := by
            have := HB.out
            rw [hlo0] at this
            exact this.root
          have hdd : decide ((0 : Int) < (lo : Int)) = false := decide_eq_false (by omega)
          clear hlo0 HB
          go_wp2_with fail
          (try simp only [Exit.inBlock, Exit.then]); refine bodyPost_end (results_none rfl _ _ _) rfl ?_
          exact ⟨rfl, ⟨_, HA.out, HE.out⟩, HC.out⟩
end Go.Proofs.Yteiidcogjmekhaa
