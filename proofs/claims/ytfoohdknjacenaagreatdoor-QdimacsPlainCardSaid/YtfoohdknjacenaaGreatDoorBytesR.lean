/- Contracts of the document's own skolemref1.lits, head, CNFBytes: the text ('textL'). Conditions: the clauses read as lists of small ints; the text is not too long; the table of powers of ten is as the program lays it. -/
import Derived.Test.YtfoohdknjacenaaGreatDoorBytesD
import Derived.Deep.RegionLaw
namespace Go.Proofs.YtfoohdknjacenaaGreatDoor
open Go.RowKit

/-- 'append(v, ys...)', v a row of bytes of the call's own, as one step of a region that draws. -/
theorem step_appU {ops : Array Oper} {o : Oper} {a : Act} {K : Act → World → Prop} {Q : Exit → Act → World → Prop} {E : Prop} (hgd : o.guard = none) (s x : Operand)
    (ho : o.op = .call { callee := .builtin .append, args := #[s, x], argTypes := #[22, 22] })
    (w : World) (B : Nat) (v : Value) (n : Nat) (xs : List Int) (ad : Addr) (m c : Nat) (ys : List Int)
    (hown : w.ownsRow B 5 1 v n (xs.map (Value.int .u8))) (hB : B ≤ w.heap.size) (hn : n + m < 1099511627776) (hm : ys.length = m) (hc : ∀ j, j < m → w.cell? (ad.add j) = some (.int .u8 (ys.getD j 0)))
    (hs : a.eval s = v) (hx : a.eval x = .slice (some ad) m c)
    (h : ∀ v' w', w'.ownsRow B 5 1 v' (n + m) ((xs ++ ys).map (Value.int .u8)) → Below B w w' → K (a.put o.dst v') w') :
    if Region.wanted o (yielded ops a.tmps) = true then Oper.wp Tryz.prog o a w K Q else E := by
  have hw : Region.wanted o (yielded ops a.tmps) = true := by simp [Region.wanted, hgd]
  rw [if_pos hw]
  obtain ⟨i0, hi, hz0, hz1, hz2⟩ := info_parts infoU8
  refine wp_append_own w s x 22 ho B 5 i0 (.int .u8 0) 1 1 Tryz.underlying22 hi hz0 hz1 hz2 rfl (by decide) v n _ hs hown ad m c (ys.map (Value.int .u8)) hx (by simp [hm]) ?_ ?_ (by unfold maxLen; omega) (by omega) hB ?_
  · intro j u hj
    rw [List.getElem?_map] at hj
    have hjl : j < ys.length := by
      rcases Nat.lt_or_ge j ys.length with h' | h'
      · exact h'
      · rw [List.getElem?_eq_none h'] at hj; cases hj
    rw [hc j (by omega)]
    rw [List.getElem?_eq_getElem hjl] at hj
    simp at hj
    subst hj
    simp [List.getD, hjl]
  · intro u hu
    obtain ⟨y, _, rfl⟩ := List.mem_map.1 hu
    rfl
  · intro v' w' h1 h2 _
    exact h v' w' (by simpa using h1) ((Below.refl B w).grown h2 hB fun k hk => (hown.lt k hk).1)

set_option maxRecDepth 8000 in
set_option maxHeartbeats 4000000 in
theorem refLits_any (B k0 : Nat) (a0 : Option Addr) (c0 : Nat) (hd : List Int) (av : Option Addr) (cv : Nat) (ys : List Int) (w : World) (hown : w.ownsRow B 5 1 (.slice a0 k0 c0) k0 (hd.map (Value.int .u8))) (hB : B ≤ w.heap.size)
    (hrow : ∀ W, Below B w W → RowAt W av cv ys) (hint : ∀ l ∈ ys, -1000000000 < l ∧ l < 1000000000) (hT : (hd ++ clsT ys).length ≤ 10000) (ht : ∀ W, Below B w W → Lib.TabBelow Tryz.prog B W "internal/strconv.uint64pow10" .u64 Lib.pow10Tab) :
    Calls Tryz.prog 48 #[.slice a0 k0 c0, .slice av ys.length cv] w fun e w' => ∃ v', e = .returned v' ∧ w'.ownsRow B 5 1 v' (hd ++ clsT ys).length ((hd ++ clsT ys).map (Value.int .u8)) ∧ Below B w w' := by
  have HRV := Lib.hid hrow; clear hrow
  have HI := Lib.hid hint; clear hint
  have HTB := Lib.hid ht; clear ht
  have hk2 : ∀ j, (hd ++ (ys.take j).flatMap litT).length + 2 ≤ 10000 := fun j => by
    have h2 := take_flat_len litT ys j
    unfold clsT at hT
    simp only [List.length_append, List.length_cons, List.length_nil] at hT ⊢
    omega
  have HKK := Lib.hid hk2; clear hk2
  have hcv : ys.length ≤ 9223372036854775807 := by have h1 := (HRV.out w (Below.refl _ _)).1; have h2 := (HRV.out w (Below.refl _ _)).2.1; unfold maxLen at h2; omega
  have HST : Hid (k0 = (hd ++ (ys.take 0).flatMap litT).length ∧ w.ownsRow B 5 1 (.slice a0 k0 c0) k0 ((hd ++ (ys.take 0).flatMap litT).map (Value.int .u8))) := by
    rw [List.take_zero, List.flatMap_nil, List.append_nil]
    exact ⟨by have := hown.1; simpa using this.symm, hown⟩
  clear hown hT
  have HCL := Lib.hid (show clsT ys = ys.flatMap litT ++ [48, 10] from rfl)
  generalize hml : ys.length = ml at *
  have HML := Lib.hid hml; clear hml
  go_enter Tryz.func48, Tryz.ntmps48
  go_wp2_with fail
  go_loopw [0, 5] (fun bv i wr => ∃ (j m : Nat) (ab : Option Addr) (cb : Nat), j ≤ ml ∧ i = .int .i64 j ∧ bv = .slice ab m cb ∧ Hid (m = (hd ++ (ys.take j).flatMap litT).length ∧ wr.ownsRow B 5 1 (.slice ab m cb) m ((hd ++ (ys.take j).flatMap litT).map (Value.int .u8))) ∧ Below B w wr) (fun _ i _ => ml - (intOf i).toNat)
  case atStart => exact ⟨0, _, _, _, Nat.zero_le _, rfl, rfl, HST.out, Below.refl _ _⟩
  case round =>
    obtain ⟨j, m2, ab2, cb2, hj, rfl, rfl, HRO2, hwr⟩ := hrel
    clear HST
    have hsr : B ≤ wr.heap.size := Nat.le_trans hB hwr.size
    by_cases hjl : j < ml
    · obtain ⟨h1, h2, h3⟩ := HRV.out _ hwr
      obtain ⟨b2, off2, ha2, hb2, hc2'⟩ := h3.resolve_left (by have := HML.out; omega)
      subst ha2
      have hjy : j < ys.length := by rw [HML.out]; exact hjl
      have g2 := hc2' j (by first | exact hjl | exact hjy)
      have HB9 := Lib.hid (HI.out _ (getD_memI hjy))
      have HSJ := Lib.hid (take_flat litT 0 ys j hjy)
      have HKJ := Lib.hid (HKK.out (j + 1))
      rw [HSJ.out] at HKJ
      clear hc2' hjy h1 h2 h3
      generalize ys.getD j 0 = l at *
      have HL9 := Lib.hid (show (litT l).length = (itoaL l).length + 1 by simp [litT])
      go_wp2_with (first
        | (go_at_call 66; refine (appInt_k B l HB9.out.1 HB9.out.2 _ _ _ wr HRO2.out.2 hsr (by have h7 := HKJ.out; simp only [List.length_append] at h7 ⊢; omega) (HTB.out _ hwr)).mono ?_; rintro e w3 ⟨v3, rfl, hown3, hb3⟩; have hz3 := hwr.trans hb3; have hs3 : B ≤ w3.heap.size := Nat.le_trans hB hz3.size; obtain ⟨a3, k3, c3, rfl, HK3, HO3⟩ := bopen hown3; clear hown3)
        | (at_builtin; refine wpList_app1G (Value.int .u8) 22 5 (.int .u8 0) 1 Tryz.underlying22 infoU8 rfl (by decide) rfl _ _ rfl w3 B _ _ _ 32 rfl HO3.out hs3 (by rw [HK3.out]; have h7 := HKJ.out; have h8 := HL9.out; simp only [List.length_append] at h7 ⊢; omega) rfl rfl ?_; intro v4 w4 hown4 hap4; have hz4 := hz3.trans hap4.below; obtain ⟨a4, k4, c4, rfl, HK4, HO4⟩ := bopen hown4; clear hown4))
      go_roundw
      case rel =>
        have he : hd ++ (ys.take (j + 1)).flatMap litT = hd ++ (ys.take j).flatMap litT ++ itoaL l ++ [32] := by rw [HSJ.out]; unfold litT; simp
        exact ⟨j + 1, k4, a4, c4, by omega, by go_num, rfl, by rw [he]; exact ⟨HK4.out, HO4.out⟩, hz4⟩
      case measure => simp [intOf]; omega
    · have hjm : j = ml := by omega
      subst hjm
      have HKE := Lib.hid (HKK.out j)
      have HTK := Lib.hid (show ys.take j = ys from List.take_of_length_le (by rw [HML.out]; exact Nat.le_refl _))
      rw [HTK.out] at HRO2 HKE
      have ha : ∀ k, (⟨wr.heap.size, 0, none⟩ : Addr).add k = ⟨wr.heap.size, k, none⟩ := fun k => by unfold Addr.add; split <;> simp_all
      have HAD := Lib.hid ha; clear ha
      go_wp2_with (at_builtin; refine wpList_appM (Value.int .u8) 0 22 5 (.int .u8 0) 1 Tryz.underlying22 infoU8 rfl (by decide) (fun _ => rfl) rfl _ _ rfl _ B _ _ _ ⟨wr.heap.size, 0, none⟩ 2 2 [48, 10] (HRO2.out.2.alloc _) (by simp; omega) (by rw [HRO2.out.1]; have := HKE.out; omega) rfl (by intro q hq; rw [HAD.out, World.cell?_alloc_at _ _ _ _ rfl]; match q, hq with | 0, _ => rfl | 1, _ => rfl) rfl rfl ?_; intro v4 w4 hown4 hb4; have hz4 := (hwr.alloc hsr _).trans hb4; obtain ⟨a4, k4, c4, rfl, HK4, HO4⟩ := bopen hown4; clear hown4)
      go_ret
      have he : hd ++ clsT ys = hd ++ ys.flatMap litT ++ [48, 10] := by rw [HCL.out, List.append_assoc]
      rw [he, ← HK4.out]
      exact ⟨_, rfl, HO4.out, hz4⟩
end Go.Proofs.YtfoohdknjacenaaGreatDoor
