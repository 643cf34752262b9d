/- Contracts of the document's All and Any: what 'allG', 'anyG' say. Conditions: the graph lies in memory ('GOp'), the literals' slice off it ('OffI'); the literals are small. -/
import Derived.Test.YtbighmmjmklioaaDoorGwR
namespace Go.Proofs.YtbighmmjmklioaaDoor
open Go.RowKit

section
variable {G : World → List Nat → Gr → Prop} {E : World → List Nat → Prop} {p : Nat} {S : List Nat} {g : Gr}

set_option maxRecDepth 8000 in
set_option maxHeartbeats 2000000 in
theorem rall_any (H : GOp G E (.pointer (some ⟨p, 0, none⟩)) 48 52) {w W : World} (hE : E w S) (hG : GIn G w S g W) (v : Value) (ls : List Int) (hv : OffI w S v ls) (hls : ∀ l ∈ ls, 0 ≤ l ∧ l ≤ 20000) :
    Calls Tryd.prog 20 #[.pointer (some ⟨p, 0, none⟩), v] W fun e w' => e = .returned (.int .i64 (allG g ls).2) ∧ GIn G w S (allG g ls).1 w' := by
  have hlen := hG.len H
  obtain ⟨a, c, rfl, h1, h2, h3⟩ := hv
  unfold maxLen at h2
  have HX := Lib.hid h3; clear h3
  have HB : Hid (∀ k, k < ls.length → in64 (ls.getD k 0)) := fun k hk => by
    have := hls (ls.getD k 0) (by simp [List.getD, hk])
    exact in64_of this.1 (by omega)
  have HT := Lib.hid (fun k (hk : k < ls.length) => allG_take g ls k hk)
  have HBD := Lib.hid (fun k => allG_bd hlen (ls.take k))
  have HTE : Hid (ls.take ls.length = ls) := List.take_length
  clear hls
  generalize hn : ls.length = n at *
  clear hn hlen
  go_enter Tryd.func20, Tryd.ntmps20
  go_wp2_with fail
  go_loopw [6, 5] (fun i x wr => ∃ (k : Nat) (s : Gr × Int), k ≤ n ∧ i = .int .i64 k ∧ x = .int .i64 s.2 ∧ GIn G w S s.1 wr ∧ Hid (s = allG g (ls.take k))) (fun i _ _ => n - (intOf i).toNat)
  case atStart => exact ⟨0, (g, 1), Nat.zero_le _, rfl, rfl, hG, by rw [List.take_zero]; rfl⟩
  case round =>
    obtain ⟨k, s, hk, rfl, rfl, hGr, HS⟩ := hrel
    clear hG
    by_cases hlt : k < n
    · obtain ⟨b, off, ha, hb, hnS, hc⟩ := HX.out.resolve_left (by omega)
      subst ha
      have y0 := (hGr.2.cell (o := off + k) hb hnS).trans (hc k hlt)
      have hbd := HBD.out k
      rw [← HS.out] at hbd
      have HST := Lib.hid (H.gand hE hGr s.2 (ls.getD k 0) (in64_of hbd.1 (by omega)) (HB.out k hlt))
      have HNX : Hid (andG s.1 s.2 (ls.getD k 0) = allG g (ls.take (k + 1))) := by
        have := HT.out k hlt
        rw [← HS.out] at this
        exact this.symm
      clear hc hbd hGr
      generalize ls.getD k 0 = y at *
      generalize andG s.1 s.2 y = s' at *
      go_wp2_with fail
      refine HST.out.mono ?_
      rintro e w2 ⟨rfl, hG2⟩
      go_wp2_with fail
      go_roundw
      case rel => exact ⟨k + 1, s', by omega, by go_num, rfl, hG2, HNX.out⟩
      case measure => simp [intOf]; omega
    · have hkn : n = k := by omega
      have HR : Hid (s = allG g ls) := by
        have := HS.out
        rw [← hkn, HTE.out] at this
        exact this
      have HGR := Lib.hid hGr
      clear hGr
      go_wp2_with fail
      go_ret
      rw [← HR.out]
      exact ⟨rfl, HGR.out⟩

set_option maxRecDepth 8000 in
set_option maxHeartbeats 2000000 in
theorem rany_any (H : GOp G E (.pointer (some ⟨p, 0, none⟩)) 48 52) {w W : World} (hE : E w S) (hG : GIn G w S g W) (v : Value) (ls : List Int) (hv : OffI w S v ls) (hls : ∀ l ∈ ls, 0 ≤ l ∧ l ≤ 19000) (hnl : ls.length ≤ 1000) :
    Calls Tryd.prog 22 #[.pointer (some ⟨p, 0, none⟩), v] W fun e w' => e = .returned (.int .i64 (anyG g ls).2) ∧ GIn G w S (anyG g ls).1 w' := by
  have hlen := hG.len H
  have bd := allG_bd hlen (ls.map notI)
  have HR : Hid (anyG g ls = ((allG g (ls.map notI)).1, notI (allG g (ls.map notI)).2)) := rfl
  have HALL : Hid (∀ W2 u, Below W.heap.size W W2 → W2.ownsRow W.heap.size 3 1 u ls.length ((ls.map notI).map (Value.int .i64)) → Calls Tryd.prog 20 #[.pointer (some ⟨p, 0, none⟩), u] W2 fun e w' => e = .returned (.int .i64 (allG g (ls.map notI)).2) ∧ GIn G w S (allG g (ls.map notI)).1 w') := fun W2 u hb hown => by
    obtain ⟨S', hE', hG', hlt, hback⟩ := hG.rebase H hE hb
    refine (rall_any H hE' hG' u (ls.map notI) (OffI.of_own hown hlt) fun l hl => ?_).mono ?_
    · obtain ⟨x, hx, rfl⟩ := List.mem_map.1 hl
      have := hls x hx
      have := notI_of x this.1
      omega
    · rintro e w' ⟨he, hg⟩
      exact ⟨he, hback _ _ hg⟩
  generalize anyG g ls = R at *
  generalize allG g (ls.map notI) = r at *
  have HNR := Lib.hid (xor_oneI r.2 bd.1 (by omega))
  have hvW := hv.row hG.2
  obtain ⟨a, c, rfl, h1, h2, h3⟩ := hvW
  unfold maxLen at h2
  have HX := Lib.hid h3; clear h3
  have HNB : Hid (∀ k, k < ls.length → ∀ W, Calls Tryd.prog 49 #[.pointer (some ⟨p, 0, none⟩), .int .i64 (ls.getD k 0)] W fun e w' => e = .returned (.int .i64 (notI (ls.getD k 0))) ∧ W = w') := fun k hk W => by
    have := hls (ls.getD k 0) (by simp [List.getD, hk])
    exact rnot_any _ _ W this.1 (by omega)
  have HT := Lib.hid (fun k (hk : k < ls.length) => map_snoc ls k hk)
  have HTE : Hid (ls.take ls.length = ls) := List.take_length
  clear hls hv hG
  generalize hn : ls.length = n at *
  clear hn hlen
  go_enter Tryd.func22, Tryd.ntmps22
  go_wp2_with fail
  go_loopw [6, 5] (fun i u wr => ∃ k : Nat, k ≤ n ∧ i = .int .i64 k ∧ wr.ownsRow W.heap.size 3 1 u k (((ls.take k).map notI).map (Value.int .i64)) ∧ Below W.heap.size W wr) (fun i _ _ => n - (intOf i).toNat)
  case atStart => exact ⟨0, Nat.zero_le _, rfl, by rw [List.take_zero]; exact World.ownsRow_nil _ _ _ _, Below.refl _ _⟩
  case round =>
    obtain ⟨k, hk, rfl, hown, hbr⟩ := hrel
    obtain ⟨ab, cb, rfl, _, hcb⟩ := own_shape hown
    unfold maxLen at hcb
    by_cases hlt : k < n
    · obtain ⟨b, off, ha, hb, hc⟩ := HX.out.resolve_left (by omega)
      subst ha
      have y0 := (hbr.cell (p := ⟨b, off + k, none⟩) hb).trans (hc k hlt)
      have HN1 := Lib.hid (HNB.out k hlt)
      have HTK := Lib.hid (HT.out k hlt)
      have hsz := hbr.size
      have HBR := Lib.hid hbr
      clear hc hbr
      generalize ls.getD k 0 = y at *
      generalize notI y = z at *
      go_wp2_with fail
      refine (HN1.out _).mono ?_
      rintro e w' ⟨rfl, rfl⟩
      go_wp2_with (at_builtin; refine wpList_app1 rfl _ _ rfl wr W.heap.size _ _ _ z hown hsz (by omega) rfl rfl ?_; intro u' w5 hown5 hap5)
      go_roundw
      case rel => exact ⟨k + 1, by omega, by go_num, by rw [HTK.out]; exact hown5, HBR.out.trans hap5.below⟩
      case measure => simp [intOf]; omega
    · have hkn : n = k := by omega
      subst hkn
      rw [HTE.out] at hown
      have HC := Lib.hid (HALL.out wr _ hbr hown)
      clear hown hbr
      go_wp2_with fail
      refine HC.out.mono ?_
      rintro e w2 ⟨rfl, hG2⟩
      have HG2 := Lib.hid hG2
      clear hG2
      go_wp2_with fail
      go_ret
      rw [HR.out]
      exact ⟨ret_int HNR.out, HG2.out⟩
end
end Go.Proofs.YtbighmmjmklioaaDoor
