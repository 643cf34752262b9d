/- Contracts of qdimacs.letter, blockLines and Bytes: a formula's text ('fTextL'). Conditions: the formula reads as lists of small ints; the text is not too long; the table of powers of ten is as the program lays it. -/
import Derived.Test.YtfoohdknjacenaaDoorBlkM
import Derived.Test.YtfoohdknjacenaaDoorFormP
import Derived.Test.YtfoohdknjacenaaDoorInsert2
namespace Go.Proofs.YtfoohdknjacenaaDoor
open Go.RowKit

set_option maxHeartbeats 1000000 in
theorem letter_any (e : Bool) (v : Value) (l : List Int) (w : World) (hv : Row w v l) : Calls Tryd.prog 42 #[.agg #[.bool e, v]] w fun r w' => r = .returned (.string (strOfNums (letL e))) ∧ Below w.heap.size w w' := by
  obtain ⟨a, c, rfl, _⟩ := hv
  have hB := fun x => (Below.refl w.heap.size w).alloc (Nat.le_refl _) (.cells #[.bool e, x] 32)
  have HB := Lib.hid hB; clear hB
  generalize l.length = n at *
  cases e with
  | false =>
    have hs : strOfNums (letL false) = ⟨#[97]⟩ := rfl
    rw [hs]
    go_enter Tryd.func42, Tryd.ntmps42
    go_wp2_with fail
    (try go_ret)
    exact ⟨rfl, HB.out _⟩
  | true =>
    have hs : strOfNums (letL true) = ⟨#[101]⟩ := rfl
    rw [hs]
    go_enter Tryd.func42, Tryd.ntmps42
    go_wp2_with fail
    (try go_ret)
    exact ⟨rfl, HB.out _⟩

/-- 'append(v, s...)', s a string: what lies in other blocks stays. -/
theorem wpList_appStrG {ops : Array Oper} {rest : List Oper} {o : Oper} {a : Act} {Q : Exit → Act → World → Prop} (hgd : o.guard = none) (sl x : Operand)
    (ho : o.op = .call { callee := .builtin .append, args := #[sl, x], argTypes := #[34, 9] })
    (w : World) (B : Nat) (v : Value) (n : Nat) (xs ys : List Int) (hb : Bts ys) (hown : w.ownsRow B 5 1 v n (xs.map (Value.int .u8))) (hB : B ≤ w.heap.size) (hn : n + ys.length < 1099511627776)
    (hs : a.eval sl = v) (hx : a.eval x = .string (strOfNums ys))
    (h : ∀ v' w', w'.ownsRow B 5 1 v' (n + ys.length) ((xs ++ ys).map (Value.int .u8)) → Below B w w' → (∀ k, k < w.heap.size → v.ownBlock ≠ some k → w'.heap[k]? = w.heap[k]?) → wpList Tryd.prog ops Q rest (a.put o.dst v') w') : wpList Tryd.prog ops Q (o :: rest) a w := by
  obtain ⟨i0, hi, hz0, hz1, hz2⟩ := info_parts infoU8
  refine Lib.wpList_append_own_string _ hgd sl x 34 9 ho B 5 i0 Tryd.underlying34 Tryd.underlying9 hi hz0 hz1 hz2 v n _ hs hown (strOfNums ys) hx (by rw [strOfNums_size]; unfold maxLen; omega) (by rw [strOfNums_size]; omega) hB ?_
  intro v' w' h1 h2 _
  rw [strOfNums_size, strCells_nums hb, ← List.map_append] at h1
  exact h v' w' h1 ((Below.refl B w).grown h2 hB fun k hk => (hown.lt k hk).1) (fun k hk hne => h2.block k hk (fun e => hne e.symm))

theorem getD_memB {bs : List Blk} {k : Nat} (h : k < bs.length) : bs.getD k blk0 ∈ bs := by simp [List.getD, h]
theorem take_varsT (G : List Int) (ys : List Int) (j : Nat) (h : j < ys.length) : varsT G (ys.take (j + 1)) = varsT G (ys.take j) ++ (G ++ itoaL (ys.getD j 0)) := by
  unfold varsT
  rw [List.take_succ_eq_append_getElem h, List.flatMap_append]
  simp [List.getD, h]

set_option maxRecDepth 8000 in
set_option maxHeartbeats 4000000 in
theorem blockLines_any (a : Option Addr) (c : Nat) (bs : List Blk) (w : World) (hr : BRowsAt w a c bs) (hint : ∀ b ∈ bs, ∀ l ∈ b.2, -1000000000 < l ∧ l < 1000000000) (hT : (bs.flatMap (blkT [32])).length ≤ 10000) (ht : Tabs w) :
    Calls Tryd.prog 26 #[.slice a bs.length c] w fun e w' => (∃ v, e = .returned v ∧ w'.ownsRow w.heap.size 5 1 v (bs.flatMap (blkT [32])).length ((bs.flatMap (blkT [32])).map (Value.int .u8))) ∧ Below w.heap.size w w' := by
  obtain ⟨hc1, hc2, hr⟩ := hr
  unfold maxLen at hc2
  have HR := Lib.hid hr; clear hr
  have HI := Lib.hid hint; clear hint
  have HTB := Lib.hid (fun W B (hb : Below w.heap.size w W) (hB : w.heap.size ≤ B) => ht.at B hb hB)
  clear ht
  have hk1 : ∀ k, ((bs.take k).flatMap (blkT [32])).length ≤ 10000 := fun k => Nat.le_trans (take_flat_len (blkT [32]) bs k) hT
  have hk2 : ∀ k j, k < bs.length → ((bs.take k).flatMap (blkT [32]) ++ letL (bs.getD k blk0).1 ++ varsT [32] ((bs.getD k blk0).2.take j)).length + 3 ≤ 10000 := fun k j hk => by
    have h1 := hk1 (k + 1)
    have h2 := take_flat_len (fun v => ([32] : List Int) ++ itoaL v) (bs.getD k blk0).2 j
    rw [take_flat (blkT [32]) blk0 bs k hk] at h1
    unfold blkT at h1
    simp only [List.length_append, List.length_cons, List.length_nil] at h1 ⊢
    unfold blkT varsT at *
    omega
  have HK2 := Lib.hid hk2; clear hk2
  have HTX : Hid (∀ (v : Value) (W : World) m, m = ((bs.take bs.length).flatMap (blkT [32])).length → W.ownsRow w.heap.size 5 1 v m (((bs.take bs.length).flatMap (blkT [32])).map (Value.int .u8)) → W.ownsRow w.heap.size 5 1 v (bs.flatMap (blkT [32])).length ((bs.flatMap (blkT [32])).map (Value.int .u8))) := fun v W m hm h => by
    rw [List.take_length] at h hm
    subst hm
    exact h
  have HSTEP := Lib.hid (fun k (hk : k < bs.length) => take_flat (blkT [32]) blk0 bs k hk)
  have HMEM := Lib.hid (fun k (hk : k < bs.length) => getD_memB (bs := bs) hk)
  generalize hN : bs.length = n at *
  have HN := Lib.hid hN; clear hN
  clear hT hk1
  go_enter Tryd.func26, Tryd.ntmps26
  go_wp2_with fail
  go_loopw [3, 10] (fun bv i wr => ∃ (k m : Nat) (ab : Option Addr) (cb : Nat), k ≤ n ∧ i = .int .i64 k ∧ bv = .slice ab m cb ∧ Hid (m = ((bs.take k).flatMap (blkT [32])).length ∧ wr.ownsRow w.heap.size 5 1 (.slice ab m cb) m (((bs.take k).flatMap (blkT [32])).map (Value.int .u8))) ∧ Below w.heap.size w wr) (fun _ i _ => n - (intOf i).toNat)
  case atStart => exact ⟨0, 0, none, 0, Nat.zero_le _, rfl, rfl, ⟨by simp, World.ownsRow_nil _ _ _ _⟩, Below.refl _ _⟩
  case round =>
    obtain ⟨k, m, ab, cb, hk, rfl, rfl, HRO, hzr⟩ := hrel
    have hsr := hzr.size
    by_cases hlt : k < n
    · obtain ⟨b, off, ha, hb, hc⟩ := HR.out.resolve_left (by omega)
      subst ha
      obtain ⟨g0, v, g1, hv⟩ := hc k hlt
      clear hc
      have g0' := (hzr.cell (p := ⟨b, off + k * 2, none⟩) hb).trans g0
      have g1' := (hzr.cell (p := ⟨b, off + k * 2 + 1, none⟩) hb).trans g1
      have HSS := Lib.hid (HSTEP.out k hlt)
      have HKK := Lib.hid (fun j => HK2.out k j hlt)
      have HIK := Lib.hid (HI.out _ (HMEM.out k hlt))
      clear g0 g1
      have HLE := Lib.hid (fun W (hW : Below w.heap.size w W) => letter_any (bs.getD k blk0).1 v (bs.getD k blk0).2 W (hv.keep hW))
      obtain ⟨av, cv, rfl, hcv1, hcv2, hrv⟩ := hv
      unfold maxLen at hcv2
      generalize hH : (bs.take k).flatMap (blkT [32]) = hd at *
      clear hH
      have HBE : Hid (blkT [32] (bs.getD k blk0) = letL (bs.getD k blk0).1 ++ varsT [32] (bs.getD k blk0).2 ++ [32, 48, 10]) := rfl
      generalize (bs.getD k blk0).1 = ex at *
      generalize (bs.getD k blk0).2 = ys at *
      have HRV := Lib.hid hrv; clear hrv
      generalize hml : ys.length = ml at *
      have HML := Lib.hid hml; clear hml
      have hlet : (letL ex).length = 1 := (let_tok ex).2.2.2
      have HK0 := Lib.hid (HKK.out 0)
      have hba : Below w.heap.size w (wr.alloc (.cells #[.bool ex, .slice av ml cv] 32)) := hzr.alloc hsr _
      have HBA := Lib.hid hba; clear hba
      go_wp2_with (first
        | (go_at_call 42; refine (HLE.out _ HBA.out).mono ?_; rintro e2 w2 ⟨rfl, hb2⟩; have hz2 := HBA.out.trans (hb2.mono HBA.out.size); have hs2 := hz2.size; obtain ⟨gx0, gx1⟩ := cells2 wr w2 _ _ _ hb2; have ho2 := own_keep HRO.out.2 (((Below.refl _ wr).alloc (Nat.le_refl _) _).trans (hb2.mono (by simp))))
        | (at_builtin; refine wpList_appStrG rfl _ _ rfl w2 w.heap.size _ _ _ (letL ex) (bts_let ex) ho2 hs2 (by rw [HRO.out.1, hlet]; have := HK0.out; simp at this ⊢; omega) rfl rfl ?_; intro v4 w4 hown4 hb4 hk4; have hz4 := hz2.trans hb4; have hs4 := hz4.size; have gy1 := (World.cell?_of_block (a := ⟨wr.heap.size, 1, none⟩) (hk4 wr.heap.size (World.block_lt_of_cell? w2 _ gx1) (fun e => by have := own_ltG HRO.out.2 e; omega))).trans gx1; obtain ⟨a4, k4, c4, rfl, HK4, HO4⟩ := bopen hown4; clear hown4))
      have HST2 : Hid (k4 = (hd ++ letL ex ++ varsT [32] (ys.take 0)).length ∧ w4.ownsRow w.heap.size 5 1 (.slice a4 k4 c4) k4 ((hd ++ letL ex ++ varsT [32] (ys.take 0)).map (Value.int .u8))) := by
        rw [List.take_zero, show varsT [32] [] = [] from rfl, List.append_nil]
        exact ⟨HK4.out, HO4.out⟩
      clear HK4 HO4 gy1
      go_loopw [3, 21] (fun bv i wr => ∃ (j m : Nat) (ab : Option Addr) (cb : Nat), j ≤ ml ∧ i = .int .i64 j ∧ bv = .slice ab m cb ∧ Hid (m = (hd ++ letL ex ++ varsT [32] (ys.take j)).length ∧ wr.ownsRow w.heap.size 5 1 (.slice ab m cb) m ((hd ++ letL ex ++ varsT [32] (ys.take j)).map (Value.int .u8))) ∧ Below w.heap.size w wr) (fun _ i _ => ml - (intOf i).toNat)
      case atStart => exact ⟨0, _, _, _, Nat.zero_le _, rfl, rfl, HST2.out, hz4⟩
      case round =>
        obtain ⟨j, m2, ab2, cb2, hj, rfl, rfl, HRO2, hzr2⟩ := hrel
        have hsr2 := hzr2.size
        clear HST2 HRO gx0 gx1
        by_cases hjl : j < ml
        · obtain ⟨b2, off2, ha2, hb2', hc2'⟩ := HRV.out.resolve_left (by have := HML.out; omega)
          subst ha2
          have hjy : j < ys.length := by rw [HML.out]; exact hjl
          have g2 := (hzr2.cell (p := ⟨b2, off2 + j, none⟩) hb2').trans (hc2' j (by first | exact hjl | exact hjy))
          have HB9 := Lib.hid (HIK.out _ (getD_memI hjy))
          have HSJ := Lib.hid (take_varsT [32] ys j hjy)
          have HKJ := Lib.hid (HKK.out (j + 1))
          rw [HSJ.out] at HKJ
          clear hc2' hjy
          generalize ys.getD j 0 = l at *
          go_wp2_with (first
            | (go_at_call 38; refine (appInt_k w.heap.size l HB9.out.1 HB9.out.2 _ _ _ w5 HO5.out hz5.size (by have := HKJ.out; simp at this ⊢; omega) (HTB.out _ _ hz5 (Nat.le_refl _))).mono ?_; rintro e w6 ⟨v6, rfl, hown6, hb6⟩; have hz6 := hz5.trans hb6; obtain ⟨a6, k6, c6, rfl, HK6, HO6⟩ := bopen hown6; clear hown6)
            | (at_builtin; refine wpList_app1G (Value.int .u8) 34 5 (.int .u8 0) 1 Tryd.underlying34 infoU8 rfl (by decide) rfl _ _ rfl wr w.heap.size _ _ _ 32 rfl HRO2.out.2 hsr2 (by rw [HRO2.out.1]; have h7 := HKJ.out; simp only [List.length_append] at h7 ⊢; omega) rfl rfl ?_; intro v5 w5 hown5 hap5; have hz5 := hzr2.trans hap5.below; obtain ⟨a5, k5, c5, rfl, HK5, HO5⟩ := bopen hown5; clear hown5))
          go_roundw
          case rel =>
            have he : hd ++ letL ex ++ varsT [32] (ys.take (j + 1)) = hd ++ letL ex ++ varsT [32] (ys.take j) ++ [32] ++ itoaL l := by rw [HSJ.out]; simp
            exact ⟨j + 1, k6, a6, c6, by omega, by go_num, rfl, by rw [he]; exact ⟨HK6.out, HO6.out⟩, hz6⟩
          case measure => simp [intOf]; omega
        · have hjm : j = ml := by omega
          subst hjm
          have HKE := Lib.hid (HKK.out j)
          have HTK := Lib.hid (show ys.take j = ys from List.take_of_length_le (by rw [HML.out]; exact Nat.le_refl _))
          rw [HTK.out] at HRO2 HKE
          go_wp2_with (at_builtin; refine wpList_appStr rfl _ _ rfl wr w.heap.size _ _ _ [32, 48, 10] (by intro x hx; simp at hx; omega) HRO2.out.2 hsr2 (by rw [HRO2.out.1]; have := HKE.out; simp at this ⊢; omega) rfl rfl ?_; intro v5 w5 hown5 hb5; have hz5 := hzr2.trans hb5; obtain ⟨a5, k5, c5, rfl, HK5, HO5⟩ := bopen hown5; clear hown5)
          go_roundw
          case rel =>
            have he : (bs.take (k + 1)).flatMap (blkT [32]) = hd ++ letL ex ++ varsT [32] ys ++ [32, 48, 10] := by rw [HSS.out, HBE.out]; simp
            exact ⟨k + 1, k5, a5, c5, by omega, by go_num, rfl, by rw [he]; exact ⟨HK5.out, HO5.out⟩, hz5⟩
          case measure => simp [intOf]; omega
    · have hkn : k = n := by omega
      subst hkn
      have HFIN := Lib.hid (HTX.out (.slice ab m cb) wr m HRO.out.1 HRO.out.2)
      clear HTX HRO
      go_wp2_with fail
      go_ret
      exact ⟨⟨_, rfl, HFIN.out⟩, hzr⟩

set_option maxHeartbeats 4000000 in
theorem bytesF_any (vn : Nat) (q : Option Addr) (d : Nat) (bs : List Blk) (a : Option Addr) (c : Nat) (xss : List (List Int)) (w : World) (hvn : vn < 1000000) (hq : BRowsAt w q d bs) (hr : RowsAt w a c xss) (hib : ∀ b ∈ bs, ∀ l ∈ b.2, -1000000000 < l ∧ l < 1000000000) (hint : ∀ xs ∈ xss, ∀ l ∈ xs, -1000000000 < l ∧ l < 1000000000) (hT : (fTextL vn bs xss).length ≤ 10000) (hn1 : xss.length ≤ 10000) (hn2 : ∀ xs ∈ xss, xs.length ≤ 10000) (ht : Tabs w) :
    Calls Tryd.prog 12 #[.agg #[.slice q bs.length d, .int .i64 (vn : Int), .slice a xss.length c]] w fun e w' => (∃ v, e = .returned v ∧ w'.ownsRow w.heap.size 5 1 v (fTextL vn bs xss).length ((fTextL vn bs xss).map (Value.int .u8))) ∧ Below w.heap.size w w' := by
  have hl1 : (textL vn xss).length + (bs.flatMap (blkT [32])).length = (fTextL vn bs xss).length := by
    unfold textL fTextL
    simp only [List.length_append]
    omega
  have HD := Lib.hid (fun W (hW : Below w.heap.size w W) => bytesD_any vn a c xss W hvn (hr.keep hW) hint (by omega) hn1 hn2 (ht.keep hW))
  have HL := Lib.hid (fun W (hW : Below w.heap.size w W) => blockLines_any q d bs W (hq.keep hW) hib (by omega) (ht.keep hW))
  obtain ⟨s0, hs0⟩ := head_line (vn : Int) (xss.length : Int) (xss.flatMap clsT)
  have HLN : Hid (∀ u W, RowG (Value.int .u8) 0 W u (textL vn xss) → Calls Tryd.prog 24 #[u, .int .i64 0] W fun e w' => e = .returned (.tuple #[.string (strOfNums s0), .int .i64 ((headT vn xss.length).length : Int), .bool true]) ∧ W = w') := fun u W hu => by
    have := line_any u (textL vn xss) 0 W hu (textL_bts _ _) (by omega)
    rw [show lineL (textL vn xss) 0 = some (s0, (headT vn xss.length).length) from hs0] at this
    exact this
  have hhl : (headT vn xss.length).length ≤ (textL vn xss).length := by unfold textL; simp
  have HIN : Hid (∀ W sv uv, W.ownsRow w.heap.size 5 1 sv (textL vn xss).length ((textL vn xss).map (Value.int .u8)) → W.ownsRow w.heap.size 5 1 uv (bs.flatMap (blkT [32])).length ((bs.flatMap (blkT [32])).map (Value.int .u8)) → (∀ g, uv.ownBlock = some g → sv.ownBlock ≠ some g) → w.heap.size ≤ W.heap.size → Calls Tryd.prog 25 #[sv, .int .i64 ((headT vn xss.length).length : Int), uv] W fun e w' => (∃ v', e = .returned v' ∧ w'.ownsRow w.heap.size 5 1 v' (fTextL vn bs xss).length ((fTextL vn bs xss).map (Value.int .u8))) ∧ Below w.heap.size W w') := fun W sv uv h1 h2 h3 h4 => by
    have := insert_any w.heap.size (headT vn xss.length).length sv uv _ _ W h1 h2 h3 h4 hhl (by omega)
    unfold InsPost at this
    rw [fText_ins, hl1] at this
    exact this
  have HBX : Hid (∀ o, Below w.heap.size w (w.alloc o)) := fun o => (Below.refl _ w).alloc (Nat.le_refl _) _
  clear hq hr hib hint ht hs0
  generalize (headT vn xss.length).length = hl at *
  generalize fTextL vn bs xss = T at *
  generalize textL vn xss = T1 at *
  generalize bs.flatMap (blkT [32]) = T2 at *
  generalize xss.length = n at *
  generalize bs.length = nb at *
  go_enter Tryd.func12, Tryd.ntmps12
  go_wp2_with (first
    | (go_at_call 23; refine (HD.out _ (HBX.out _)).mono ?_; rintro e w1 ⟨⟨v1, rfl, ho1⟩, hb1⟩; have hz1 := (HBX.out _).trans (hb1.mono (by simp)); have HO1 := Lib.hid (own_base ho1 (show w.heap.size ≤ _ by simp)); obtain ⟨a1, k1, c1, rfl, HK1, _⟩ := bopen ho1; obtain ⟨gx0, gx1, gx2⟩ := cells3 w w1 _ _ _ _ hb1)
    | (go_at_call 24; refine (HLN.out _ _ (own_rowG (d := 0) ho1)).mono ?_; rintro e w' ⟨rfl, rfl⟩)
    | (go_at_call 26; refine (HL.out _ hz1).mono ?_; rintro e w2 ⟨⟨v2, rfl, ho2⟩, hb2⟩; have hz2 := hz1.trans (hb2.mono hz1.size); have HO2 := Lib.hid (own_base ho2 hz1.size); have hsep : ∀ g, v2.ownBlock = some g → (Value.slice a1 k1 c1).ownBlock ≠ some g := fun g e1 e2 => (by have h1 := (ho2.lt g e1).1; have h2 := own_ltG ho1 e2; omega); obtain ⟨a2, k2, c2, rfl, HK2, _⟩ := bopen ho2)
    | (go_at_call 25; refine (HIN.out _ _ _ (own_keep HO1.out hb2) HO2.out hsep hz2.size).mono ?_; rintro e w3 ⟨⟨v3, rfl, ho3⟩, hb3⟩))
  (try go_ret)
  exact ⟨⟨_, rfl, ho3⟩, hz2.trans hb3⟩
end Go.Proofs.YtfoohdknjacenaaDoor
