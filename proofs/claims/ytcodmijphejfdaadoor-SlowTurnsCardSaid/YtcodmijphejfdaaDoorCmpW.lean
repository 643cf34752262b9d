/- The contract of slices.Compact on a row of masks of the call's own: the library's two loops are walked; what it leaves has the same members. Conditions: how the row lies in memory. -/
import Derived.Test.YtcodmijphejfdaaDoorCmpM
import Derived.BigRegion
namespace Go.Proofs.YtcodmijphejfdaaDoor
open Go.RowKit

theorem zeroCl : ∀ w : World, (zeroValue 104).run Tryd.prog w = .ok (.agg #[.int .i64 0, .int .i64 0]) w := fun w => by kernel_rfl
def CmpPost (B blk off cap : Nat) (D : List Mk) (w : World) (e : Ending) (w' : World) : Prop :=
  ∃ ds : List Mk, e = .returned (.slice (some ⟨blk, off, none⟩) ds.length cap) ∧ ds.length ≤ D.length ∧ MCel w' blk off ds ∧ (∀ x, x ∈ ds ↔ x ∈ D) ∧ Below B w w'

set_option maxRecDepth 100000 in
set_option maxHeartbeats 4000000 in
theorem compactM_any (B blk off cap : Nat) (D : List Mk) (w : World) (hM : MCel w blk off D) (hB : B ≤ blk) (hn : D.length ≤ 1000000000) (hcap : D.length ≤ cap) :
    Calls Tryd.prog 61 #[.slice (some ⟨blk, off, none⟩) D.length cap] w (CmpPost B blk off cap D w) := by
  by_cases h2 : D.length < 2
  · have HM := Lib.hid hM
    clear hM
    go_enter Tryd.func61, Tryd.ntmps61
    go_wp2_with fail
    go_ret
    exact ⟨D, rfl, Nat.le_refl _, HM.out, fun _ => Iff.rfl, Below.refl _ _⟩
  · have HM := Lib.hid hM
    clear hM
    generalize hN : D.length = n at *
    have HN := Lib.hid hN; clear hN
    go_enter Tryd.func61, Tryd.ntmps61
    go_wp2_with fail
    go_loopw [3] (fun s3 wr => ∃ k : Nat, 1 ≤ k ∧ k ≤ n ∧ s3 = .int .i64 k ∧ MCel wr blk off D ∧ Below B w wr) (fun s3 _ => n - (intOf s3).toNat)
    case atStart => exact ⟨1, Nat.le_refl _, by omega, rfl, HM.out, Below.refl _ _⟩
    case round =>
      obtain ⟨k, hk1, hk, rfl, hmc, hbr⟩ := hrel
      by_cases hlk : k < n
      · obtain ⟨c1, c2, _, _⟩ := hmc k (by rw [HN.out]; exact hlk)
        obtain ⟨c3, c4, _, _⟩ := hmc (k - 1) (by rw [HN.out]; omega)
        have HMC := Lib.hid hmc
        have HBR := Lib.hid hbr
        clear hmc hbr
        have HST : Hid (D.getD k (0, 0) = D.getD (k - 1) (0, 0) → CpI D D k (k + 1)) := fun h => CpI.start hk1 (by rw [HN.out]; exact hlk) h
        generalize D.getD k (0, 0) = x at *
        generalize D.getD (k - 1) (0, 0) = y at *
        obtain ⟨P, M⟩ := x
        obtain ⟨P', M'⟩ := y
        simp only at c1 c2 c3 c4
        obtain ⟨i, rfl⟩ : ∃ i, k = i + 1 := ⟨k - 1, by omega⟩
        simp only [Nat.add_sub_cancel] at c3 c4
        by_cases hdup : P = P' ∧ M = M'
        · obtain ⟨rfl, rfl⟩ := hdup
          have HS := Lib.hid (HST.out rfl)
          clear HST
          go_wp2_with fail
          go_region
          go_wp2_with fail
          clear c1 c2 c3 c4
          go_loopw [3, 5] (fun s3 s5 wr2 => ∃ (kk t : Nat) (cur : List Mk), s3 = .int .i64 kk ∧ s5 = .int .i64 ((t : Int) + 1) ∧ i + 1 + (t + 1) ≤ n ∧ MCel wr2 blk off cur ∧ Below B w wr2 ∧ Hid (CpI D cur kk (i + 1 + (t + 1)))) (fun _ s5 _ => n - (intOf s5).toNat)
          case atStart => exact ⟨i + 1, 0, D, by go_num, rfl, by omega, HMC.out, HBR.out.drew, HS.out⟩
          case round =>
            obtain ⟨kk, t, cur, rfl, rfl, hle, hmc2, hbr2, HI⟩ := hrel
            have hkl := HI.out.lt
            have hlen := HI.out.len
            rw [HN.out] at hlen
            by_cases hl2 : i + 1 + (t + 1) < n
            · obtain ⟨m1, m2, _, _⟩ := hmc2 (i + 1 + (t + 1)) (by omega)
              obtain ⟨p1, p2, _, _⟩ := hmc2 (i + 1 + t) (by omega)
              obtain ⟨k1, k2, k3, k4⟩ := hmc2 kk (by omega)
              rw [HI.out.high (i + 1 + (t + 1)) (by omega), show off + (i + 1 + (t + 1)) * 2 = off + (i + 1) * 2 + (t + 1) * 2 by omega] at m1 m2
              rw [HI.out.high (i + 1 + t) (by omega), show off + (i + 1 + t) * 2 = off + (i + 1) * 2 + t * 2 by omega] at p1 p2
              have HMC2 := Lib.hid hmc2
              have HBR2 := Lib.hid hbr2
              clear hmc2 hbr2
              have HSK : Hid (D.getD (i + 1 + (t + 1)) (0, 0) = D.getD (i + 1 + t) (0, 0) → CpI D cur kk (i + 1 + (t + 1 + 1))) := fun h => HI.out.skip (by omega) (by rw [HN.out]; exact hl2) (by rw [h]; rfl)
              have HPT : Hid (CpI D (cur.set kk (D.getD (i + 1 + (t + 1)) (0, 0))) (kk + 1) (i + 1 + (t + 1 + 1))) := HI.out.put (by rw [HN.out]; exact hl2)
              generalize D.getD (i + 1 + (t + 1)) (0, 0) = x at *
              generalize D.getD (i + 1 + t) (0, 0) = y at *
              generalize cur.getD kk (0, 0) = z at *
              obtain ⟨P2, M2⟩ := x
              obtain ⟨P3, M3⟩ := y
              obtain ⟨P4, M4⟩ := z
              simp only at m1 m2 p1 p2 k1 k2
              by_cases hdup2 : P2 = P3 ∧ M2 = M3
              · obtain ⟨rfl, rfl⟩ := hdup2
                have HS2 := Lib.hid (HSK.out rfl)
                clear HSK HPT
                go_wp2_with fail
                go_region
                go_wp2_with fail
                go_roundw
                case rel => exact ⟨kk, t + 1, cur, rfl, by go_num, by omega, HMC2.out, HBR2.out.drew, HS2.out⟩
                case measure => simp [intOf]; omega
              · clear HSK
                have HMS := Lib.hid (fun W (h : MCel W blk off cur) => h.set kk P2 M2)
                by_cases hP : P2 = P3
                · subst hP
                  have hb1 : ((M2 : Int) == (M3 : Int)) = false := beq_eq_false_iff_ne.2 (fun e => hdup2 ⟨rfl, by omega⟩)
                  clear hdup2
                  go_wp2_with fail
                  go_region
                  go_wp2_with fail
                  go_roundw
                  case rel => exact ⟨kk + 1, t + 1, _, by go_num, by go_num, by omega, HMS.out _ HMC2.out, (HBR2.out.drew.setCell hB _).setCell hB _, HPT.out⟩
                  case measure => simp [intOf]; omega
                · have hb1 : ((P2 : Int) == (P3 : Int)) = false := beq_eq_false_iff_ne.2 (fun e => hP (by omega))
                  clear hdup2 hP
                  go_wp2_with fail
                  go_region
                  go_wp2_with fail
                  go_roundw
                  case rel => exact ⟨kk + 1, t + 1, _, by go_num, by go_num, by omega, HMS.out _ HMC2.out, (HBR2.out.drew.setCell hB _).setCell hB _, HPT.out⟩
                  case measure => simp [intOf]; omega
            · have hend : i + 1 + (t + 1) = n := by omega
              have HE : Hid (MCel (wr.setCells blk (off + kk * 2) (List.replicate ((n - kk) * 2) (.int .i64 0))) blk off (cur.take kk)) := fun j hj => by
                have hj' : j < kk := by rw [List.length_take] at hj; omega
                obtain ⟨e1, e2, e3, e4⟩ := hmc2 j (by omega)
                have hg : (cur.take kk).getD j (0, 0) = cur.getD j (0, 0) := by simp [List.getD, hj', show j < cur.length by omega]
                rw [hg]
                refine ⟨(World.cell?_setCells_out blk _ (off + kk * 2) _ ⟨blk, off + j * 2, none⟩ (fun _ _ => .inl (by show off + j * 2 < off + kk * 2; omega))).trans e1, (World.cell?_setCells_out blk _ (off + kk * 2) _ ⟨blk, off + j * 2 + 1, none⟩ (fun _ _ => .inl (by show off + j * 2 + 1 < off + kk * 2; omega))).trans e2, ?_, ?_⟩
                · rw [World.frozen?_setCells]; exact e3
                · rw [World.frozen?_setCells]; exact e4
              have HB2 := Lib.hid (below_setCells blk hB (List.replicate ((n - kk) * 2) (.int .i64 0)) (off + kk * 2) wr hbr2)
              have HM2 : Hid (∀ x, x ∈ cur.take kk ↔ x ∈ D) := fun x => by
                have := HI.out.mem x
                rw [hend, ← HN.out, List.take_length] at this
                exact this
              have HL2 : Hid ((cur.take kk).length = kk) := by show _ = _; rw [List.length_take]; omega
              have hcell : ∀ j, j < (n - kk) * 2 → (wr.cell? ⟨blk, off + kk * 2 + j, none⟩).isSome = true ∧ wr.frozen? ⟨blk, off + kk * 2 + j, none⟩ = false := fun j hj => by
                obtain ⟨e1, e2, e3, e4⟩ := hmc2 (kk + j / 2) (by omega)
                rcases Nat.mod_two_eq_zero_or_one j with e | e
                · rw [show off + kk * 2 + j = off + (kk + j / 2) * 2 by omega, e1]
                  exact ⟨rfl, e3⟩
                · rw [show off + kk * 2 + j = off + (kk + j / 2) * 2 + 1 by omega, e2]
                  exact ⟨rfl, e4⟩
              have hcl : ∀ ty, (Builtin.clear_ #[78] ty #[.slice (some ⟨blk, off + kk * 2, none⟩) (n - kk) (cap - kk)]).run Tryd.prog wr = .ok (.tuple #[]) (wr.setCells blk (off + kk * 2) (List.replicate ((n - kk) * 2) (.int .i64 0))) := fun ty =>
                run_clear_two wr _ _ ty _ Tryd.underlying78 zeroCl rfl blk (off + kk * 2) _ _ (by omega) (fun j hj => (hcell j hj).1) (fun j hj => (hcell j hj).2)
              clear hcell hmc2 hbr2
              go_wp2_with fail
              go_ret
              exact ⟨cur.take kk, by rw [HL2.out]; rfl, by rw [HL2.out, HN.out]; omega, HE.out, HM2.out, HB2.out⟩
        · by_cases hP : P = P'
          · subst hP
            have hb1 : ((M : Int) == (M' : Int)) = false := beq_eq_false_iff_ne.2 (fun e => hdup ⟨rfl, by omega⟩)
            clear hdup HST
            go_wp2_with fail
            go_region
            go_wp2_with fail
            go_roundw
            case rel => exact ⟨i + 1 + 1, by omega, by omega, by go_num, HMC.out, HBR.out.drew⟩
            case measure => simp [intOf]; omega
          · have hb1 : ((P : Int) == (P' : Int)) = false := beq_eq_false_iff_ne.2 (fun e => hP (by omega))
            clear hdup hP HST
            go_wp2_with fail
            go_region
            go_wp2_with fail
            go_roundw
            case rel => exact ⟨i + 1 + 1, by omega, by omega, by go_num, HMC.out, HBR.out.drew⟩
            case measure => simp [intOf]; omega
      · have hkn : k = n := by omega
        subst hkn
        have HMC := Lib.hid hmc
        have HBR := Lib.hid hbr
        clear hmc hbr
        go_wp2_with fail
        go_ret
        exact ⟨D, by rw [HN.out]; rfl, Nat.le_refl _, HMC.out, fun _ => Iff.rfl, HBR.out⟩
end Go.Proofs.YtcodmijphejfdaaDoor
