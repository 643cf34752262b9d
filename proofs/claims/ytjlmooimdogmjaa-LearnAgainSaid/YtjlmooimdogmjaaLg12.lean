/- The contract of slices.Index at pointers of clauses. Conditions: the row is a prop's; unlike clauses lie apart. · The contracts of slices.Delete at pointers of clauses, one of them, and of prop.without. Conditions: the row is a prop's. -/
import Derived.Test.YtjlmooimdogmjaaLg11
import Derived.LaidEqlPtr
import Derived.Lib.SliceRun
import Derived.Laws.OwnMore
import Derived.Deep.RegionLaw
set_option linter.unusedVariables false
set_option linter.unusedSimpArgs false
namespace Go.Proofs.Ytjlmooimdogmjaa
open Go.RowKit

theorem clSize : (Try.prog.info? 77).map (·.size) = some 2 := by kernel_rfl
section
variable {w : World} {L : Lay}
/-- Where i stands first. -/
def idxM (xs : List Nat) (i : Nat) : Int := if i ∈ xs then (xs.idxOf i : Int) else -1
theorem own_nilv {e : TypeId} {v : Value} {n : Nat} {xs : List Value} (h : w.ownsRow 0 e 1 v n xs) (h0 : n = 0) : ∃ a c, v = .slice a 0 c := by
  obtain ⟨a, c, e, _⟩ := own_shape h
  exact ⟨a, c, by rw [e, h0]⟩

set_option maxRecDepth 8000 in
set_option maxHeartbeats 4000000 in
theorem mindex_any (v : Value) (xs : List Nat) (i : Nat) (ho : w.ownsRow 0 68 1 v xs.length (xs.map (ptrC L))) (hinj : ∀ x ∈ xs, L.cb x = L.cb i → x = i) (hbl : ∀ x, x ∈ xs ∨ x = i → ∃ cs T, w.heap[L.cb x]? = some (.cells cs T (0, 0))) (hn : xs.length ≤ 1000000000) :
    Calls Try.prog 85 #[v, ptrC L i] w fun e w' => e = .returned (.int .i64 (idxM xs i)) ∧ w' = w := by
  obtain ⟨sa, sc, rfl, _⟩ := own_shape ho
  have HO := Lib.hid ho
  have HJ := Lib.hid hinj
  have HBL := Lib.hid hbl
  clear ho hinj hbl
  obtain ⟨jt, hj, hjs⟩ := Option.map_eq_some_iff.1 clSize
  have HPC : Hid (ptrC L i = .pointer (some ⟨L.cb i, 0, none⟩)) := rfl
  rw [HPC.out]
  generalize hN : xs.length = N at *
  have HN := Lib.hid hN
  clear hN
  go_enter Try.func85, Try.ntmps85
  go_wp2_with fail
  go_loopw [5, 8] (fun _ u8 wr => ∃ k : Nat, k ≤ N ∧ u8 = .int .i64 (k : Int) ∧ wr = w ∧ Hid (i ∉ xs.take k)) (fun _ u8 _ => N - (intOf u8).toNat)
  case atStart => exact ⟨0, Nat.zero_le _, rfl, rfl, by simp [Hid]⟩
  case round =>
    obtain ⟨k, hk1, rfl, rfl, HI⟩ := hrel
    by_cases hk : k < N
    · obtain ⟨g, cap, e⟩ := own_at HO.out (by omega)
      injection e with e1 _ e3
      subst e1; subst e3
      have hkx : k < xs.length := by rw [HN.out]; exact hk
      have x1 := own_cell HO.out (i := k) (u := ptrC L (xs.getD k 0)) (by rw [List.getElem?_map]; simp [List.getD, hkx])
      have HX : Hid (xs.getD k 0 = xs[k]) := by unfold Hid; simp [List.getD, hkx]
      have HT : Hid (xs.take (k + 1) = xs.take k ++ [xs.getD k 0]) := by unfold Hid; rw [HX.out]; exact List.take_succ_eq_append_getElem hkx
      have hm : xs.getD k 0 ∈ xs := by rw [HX.out]; exact List.getElem_mem hkx
      have HJ1 := Lib.hid (HJ.out _ hm)
      have HID : Hid (xs.getD k 0 = i → idxM xs i = (k : Int)) := fun e => by
        unfold idxM
        rw [if_pos (e ▸ hm)]
        have h1 : xs.idxOf i = k := by
          have hsplit : xs = xs.take k ++ xs.drop k := (List.take_append_drop k xs).symm
          rw [hsplit, List.idxOf_append, if_neg HI.out, List.length_take, Nat.min_eq_left (by omega)]
          rw [List.drop_eq_getElem_cons hkx, ← HX.out, e]
          simp
        rw [h1]
      rw [show ptrC L (xs.getD k 0) = .pointer (some ⟨L.cb (xs.getD k 0), 0, none⟩) from rfl] at x1
      by_cases he : L.cb (xs.getD k 0) = L.cb i
      · have hx := HJ1.out he
        have HE := Lib.hid (HID.out hx)
        rw [he] at x1
        have hq := run_eql_ptr_same (P := Try.prog) wr (tp := 68) ⟨L.cb i, 0, none⟩ Try.underlying68 hj
        clear he hx hkx HX HT hm
        go_wp2_with fail
        go_ret
        exact ⟨ret_int HE.out.symm, rfl⟩
      · have HNE : Hid (i ∉ xs.take (k + 1)) := by
          unfold Hid
          rw [HT.out]
          intro hm
          rw [List.mem_append, List.mem_singleton] at hm
          rcases hm with hm | hm
          · exact HI.out hm
          · exact he (by rw [← hm])
        obtain ⟨c1, t1, hb1⟩ := HBL.out _ (.inl hm)
        obtain ⟨c2, t2, hb2⟩ := HBL.out i (.inr rfl)
        have hq := run_eql_ptr_other (P := Try.prog) wr (tp := 68) (a := ⟨L.cb i, 0, none⟩) (b := ⟨L.cb (xs.getD k 0), 0, none⟩) Try.underlying68 hj (by rw [hjs]; decide) (fun e => he (by injection e with e; exact e.symm)) hb2 hb1
        clear hb1 hb2 hm
        generalize L.cb (xs.getD k 0) = y at *
        clear hkx HX HT
        go_wp2_with fail
        go_roundw
        case rel => exact ⟨k + 1, by omega, by go_num, by first | rfl | trivial, HNE.out⟩
        case measure => go_light; simp [intOf]; omega
    · have hd : ¬ k < N := hk
      have HE : Hid (idxM xs i = -1) := by
        unfold Hid idxM
        rw [if_neg]
        have := HI.out
        rw [List.take_of_length_le (by rw [HN.out]; omega)] at this
        exact this
      go_wp2_with fail
      go_ret
      exact ⟨ret_int HE.out.symm, rfl⟩

end
end Go.Proofs.Ytjlmooimdogmjaa

namespace Go.Proofs.Ytjlmooimdogmjaa
open Go.RowKit

/-- An append that fits, as one step of a region that draws. -/
theorem step_fits {ops : Array Oper} {o : Oper} {a : Act} {K : Act → World → Prop} {Q : Exit → Act → World → Prop} {EE : Prop} (T E : TypeId) (z : Value) (bytes : Nat) (hT : Try.prog.underlying T = some (.slice E))
    (hE : (Try.prog.info? E).map (fun i => (i.zero, i.size, i.bytes)) = some (some z, 1, bytes)) (hgd : o.guard = none) (s x : Operand)
    (ho : o.op = .call { callee := .builtin .append, args := #[s, x], argTypes := #[T, T] })
    (w : World) (g n cap : Nat) (xs : List Value) (ad : Addr) (m c : Nat) (news : List Value)
    (hown : w.ownsRow 0 E 1 (.slice (some ⟨g, 0, none⟩) n cap) n xs) (hl : news.length = m * 1) (hc : ∀ j u, news[j]? = some u → w.cell? (ad.add j) = some u) (h1 : ∀ u ∈ news, u.oneCell' = true) (hr : n + m ≤ cap)
    (hs : a.eval s = .slice (some ⟨g, 0, none⟩) n cap) (hx : a.eval x = .slice (some ad) m c)
    (h : ∀ w', w'.ownsRow 0 E 1 (.slice (some ⟨g, 0, none⟩) (n + m) cap) (n + m) (xs ++ news) → w.grownBy w' (some g) → K (a.put o.dst (.slice (some ⟨g, 0, none⟩) (n + m) cap)) w') :
    if Region.wanted o (yielded ops a.tmps) = true then Oper.wp Try.prog o a w K Q else EE := by
  have hw : Region.wanted o (yielded ops a.tmps) = true := by simp [Region.wanted, hgd]
  rw [if_pos hw]
  obtain ⟨i0, hi, hz0, hz1, hz2⟩ := info_parts hE
  obtain ⟨w', hr', h2, h3⟩ := run_append_fits (P := Try.prog) w 0 T o.type E i0 1 hT hi hz1 g n cap xs hown ad m c news hl hc h1 hr
  unfold Oper.wp execOp
  simp only [ho, resolve, invoke, builtin, Sem.run_bind, Sem.run_pure, Result.andThen_ok, List.map_toArray, List.map_cons, List.map_nil, hs, hx, hr']
  exact h w' h2 h3

theorem own_isSome {w : World} {B : Nat} {e : TypeId} {g n cap : Nat} {xs : List Value} (h : w.ownsRow B e 1 (.slice (some ⟨g, 0, none⟩) n cap) n xs) {i : Nat} (hi : i < cap) : (w.cell? ⟨g, i, none⟩).isSome = true := by
  rcases h.2 with ⟨e0, _⟩ | ⟨g', cap', cur, e0, _, hg, h1, h2, h3, h4⟩
  · cases e0
  · injection e0 with e1 _ e3
    injection e1 with e1
    injection e1 with e1
    subst e1; subst e3
    simp [World.cell?, hg, h3, hi]
/-- A store behind the row's end. -/
theorem own_beyond {w : World} {B : Nat} {e : TypeId} {g n cap : Nat} {xs : List Value} (h : w.ownsRow B e 1 (.slice (some ⟨g, 0, none⟩) n cap) n xs) (i : Nat) (u : Value) (hi : n ≤ i) : (w.setCell ⟨g, i, none⟩ u).ownsRow B e 1 (.slice (some ⟨g, 0, none⟩) n cap) n xs := by
  obtain ⟨h1, h2⟩ := h
  refine ⟨h1, ?_⟩
  rcases h2 with ⟨e0, _⟩ | ⟨g', cap', cur, hv, hg, hh, k1, k2, k3, k4⟩
  · cases e0
  · injection hv with e1 e2 e3
    injection e1 with e1
    injection e1 with e1 _ _
    subst e1; subst e3
    refine .inr ⟨g, cap, cur.setIfInBounds i u, rfl, hg, ?_, k1, k2, by simpa using k3, ?_⟩
    · have hlt : g < w.heap.size := by
        rcases Nat.lt_or_ge g w.heap.size with h' | h'
        · exact h'
        · rw [Array.getElem?_eq_none h'] at hh; cases hh
      have h' : w.heap[g] = .cells cur e (0, 0) := by simpa [Array.getElem?_eq_getElem hlt] using hh
      show (w.heap.modify g _)[g]? = _
      rw [Array.getElem?_eq_getElem (by simpa using hlt), Array.getElem_modify_self, h']
      rfl
    · rw [← k4, Array.toList_setIfInBounds, List.take_set_of_le (by omega)]
theorem zeroPc (w : World) : (zeroValue 68).run Try.prog w = .ok (.pointer none) w := by kernel_rfl

section
variable {w : World} {L : Lay}

set_option maxRecDepth 8000 in
set_option maxHeartbeats 4000000 in
theorem mdelete_any (g n cap : Nat) (ys : List Value) (k : Nat) (ho : w.ownsRow 0 68 1 (.slice (some ⟨g, 0, none⟩) n cap) n ys) (h1 : ∀ u ∈ ys, u.oneCell' = true) (hk : k < n) :
    Calls Try.prog 48 #[.slice (some ⟨g, 0, none⟩) n cap, .int .i64 (k : Int), .int .i64 ((k : Int) + 1)] w fun e w' => e = .returned (.slice (some ⟨g, 0, none⟩) (n - 1) cap) ∧ w'.ownsRow 0 68 1 (.slice (some ⟨g, 0, none⟩) (n - 1) cap) (n - 1) (ys.eraseIdx k) ∧ Only g w w' := by
  obtain ⟨hnc, hcm⟩ := own_cap ho
  have hlen : ys.length = n := by have := ho.1; omega
  have HPRE : Hid (w.ownsRow 0 68 1 (.slice (some ⟨g, 0, none⟩) k cap) k (ys.take k)) := by
    refine own_less (m := n - k) (ys := ys.drop k) ?_ (by simp; omega)
    rw [List.take_append_drop, show k + (n - k) = n by omega]
    exact ho
  have HSRC : Hid (∀ (A : Addr), (if cap = k + 1 then (some ⟨g, 0, none⟩ : Option Addr) else some ⟨g, k + 1, none⟩) = some A → ∀ j u, (ys.drop (k + 1))[j]? = some u → w.cell? (A.add j) = some u) := fun A hA j u hj => by
    rw [List.getElem?_drop] at hj
    have hjl : k + 1 + j < ys.length := by
      rcases Nat.lt_or_ge (k + 1 + j) ys.length with h' | h'
      · exact h'
      · rw [List.getElem?_eq_none h'] at hj; cases hj
    by_cases hc : cap = k + 1
    · omega
    · rw [if_neg hc] at hA
      obtain rfl := Option.some.inj hA
      rw [Addr.add_lit]
      exact own_cell ho hj
  have HLN : Hid ((ys.drop (k + 1)).length = (n - (k + 1)) * 1) := by unfold Hid; rw [List.length_drop]; omega
  have HONE : Hid (∀ u ∈ ys.drop (k + 1), u.oneCell' = true) := fun u hu => h1 u (List.mem_of_mem_drop hu)
  have HER : Hid (ys.eraseIdx k = ys.take k ++ ys.drop (k + 1)) := List.eraseIdx_eq_take_drop_succ ..
  obtain ⟨A, hA⟩ : ∃ A, (if cap = k + 1 then (some ⟨g, 0, none⟩ : Option Addr) else some ⟨g, k + 1, none⟩) = some A := by
    by_cases hc : cap = k + 1
    · exact ⟨_, if_pos hc⟩
    · exact ⟨_, if_neg hc⟩
  have HC := Lib.hid (HSRC.out A hA)
  unfold maxLen at hcm
  have hkc : k ≤ cap := by omega
  have hkc1 : k + 1 ≤ cap := by omega
  have hi1 : (0 : Int) ≤ (k : Int) + 1 := by omega
  have hi2 : (k : Int) + 1 ≤ (n : Int) := by omega
  clear ho h1 hlen HSRC
  go_enter Try.func48, Try.ntmps48
  go_wp2_with fail
  go_region_law (refine step_fits 65 68 (.pointer none) 8 Try.underlying65 infoPc rfl _ _ rfl w.drew g k cap (ys.take k) A (n - (k + 1)) (cap - (k + 1)) (ys.drop (k + 1)) HPRE.out HLN.out HC.out HONE.out (by omega) (by simp [Act.eval, Act.put]) (by simp [Act.eval, Act.put]) ?_; intro w5 ho5 hg5; have HO5 := Lib.hid ho5; have HG5 := Lib.hid hg5; clear ho5 hg5)
  have hnK : n = k + (n - (k + 1)) + 1 := by omega
  have HEND : Hid (n - 1 = k + (n - (k + 1))) := by unfold Hid; omega
  generalize k + (n - (k + 1)) = K at *
  have HK := Lib.hid hnK
  have hsz : n - K = 1 := by omega
  have hKc : K ≤ cap := by omega
  have hi3 : (0 : Int) ≤ (K : Int) := by omega
  have hi4 : (K : Int) ≤ (n : Int) := by omega
  clear hnK
  have hcl : ∀ ty, (Builtin.clear_ #[65] ty #[.slice (some ⟨g, K, none⟩) (n - K) (cap - K)]).run Try.prog w5 = .ok (.tuple #[]) (w5.setCells g K (List.replicate (n - K) (.pointer none))) := fun ty =>
    Lib.run_clear_slice w5 _ _ ty _ Try.underlying65 zeroPc rfl rfl g K _ _ (by omega) (fun j hj => own_isSome HO5.out (by omega)) (fun j _ => own_frozen HO5.out _)
  rw [hsz] at hcl
  have HFIN : Hid ((w5.setCells g K (List.replicate 1 (.pointer none))).ownsRow 0 68 1 (.slice (some ⟨g, 0, none⟩) K cap) K (ys.eraseIdx k) ∧ Only g w (w5.setCells g K (List.replicate 1 (.pointer none)))) := by
    have e : w5.setCells g K (List.replicate 1 (.pointer none)) = w5.setCell ⟨g, K, none⟩ (.pointer none) := by
      simp [World.setCells]
    unfold Hid
    rw [e, HER.out]
    refine ⟨own_beyond HO5.out K _ (Nat.le_refl _), ?_⟩
    have h1 : Only g w w5 := Only.trans (Only.of_below (Below.refl _ _).drew) HG5.out
    exact h1.trans (Only.setCell _ _ _ _)
  go_wp2_with fail
  go_ret
  rw [HEND.out]
  exact ⟨rfl, HFIN.out⟩

theorem idx_erase (xs : List Nat) (i : Nat) (h : i ∈ xs) : xs.eraseIdx (xs.idxOf i) = xs.erase i := (List.erase_eq_eraseIdx_of_idxOf rfl).symm
theorem app_of_only {g n n' cap : Nat} {w' : World} (h : Only g w w') : App 0 w w' (.slice (some ⟨g, 0, none⟩) n cap) (.slice (some ⟨g, 0, none⟩) n' cap) :=
  ⟨h.below' (Nat.zero_le _) (Nat.zero_le _), fun k hk hne => h.block k hk hne, .inl rfl⟩

set_option maxRecDepth 8000 in
set_option maxHeartbeats 4000000 in
theorem mwithout_any (v : Value) (xs : List Nat) (i : Nat) (ho : w.ownsRow 0 68 1 v xs.length (xs.map (ptrC L))) (hinj : ∀ x ∈ xs, L.cb x = L.cb i → x = i) (hbl : ∀ x, x ∈ xs ∨ x = i → ∃ cs T, w.heap[L.cb x]? = some (.cells cs T (0, 0))) (hn : xs.length ≤ 1000000000) :
    Calls Try.prog 79 #[v, ptrC L i] w fun e w' => ∃ v', e = .returned v' ∧ App 0 w w' v v' ∧ w'.ownsRow 0 68 1 v' (xs.erase i).length ((xs.erase i).map (ptrC L)) := by
  have HI := Lib.hid (mindex_any v xs i ho hinj hbl hn)
  have HO := Lib.hid ho
  clear hinj hbl
  by_cases hm : i ∈ xs
  · have HE : Hid (idxM xs i = (xs.idxOf i : Int)) := if_pos hm
    rw [HE.out] at HI
    have hlt : xs.idxOf i < xs.length := List.idxOf_lt_length_of_mem hm
    have HER := Lib.hid (idx_erase xs i hm)
    have HLE := Lib.hid (List.length_erase_of_mem hm)
    obtain ⟨g, cap, rfl⟩ := own_at ho (by omega)
    generalize xs.idxOf i = k at *
    have HD := Lib.hid (mdelete_any g xs.length cap _ k ho (fun u hu => by obtain ⟨y, _, rfl⟩ := List.mem_map.1 hu; rfl) hlt)
    clear ho hm
    generalize hN : xs.length = N at *
    clear hN HO
    have hk0 : decide ((0 : Int) ≤ (k : Int)) = true := decide_eq_true (by omega)
    go_enter Try.func79, Try.ntmps79
    go_wp2_with fail
    refine HI.out.mono ?_
    rintro e w2 ⟨rfl, rfl⟩
    go_wp2_with fail
    refine HD.out.mono ?_
    rintro e w3 ⟨rfl, ho3, hg3⟩
    have HF : Hid (App 0 w2 w3 (.slice (some ⟨g, 0, none⟩) N cap) (.slice (some ⟨g, 0, none⟩) (N - 1) cap) ∧ w3.ownsRow 0 68 1 (.slice (some ⟨g, 0, none⟩) (N - 1) cap) (xs.erase i).length ((xs.erase i).map (ptrC L))) := by
      refine ⟨app_of_only hg3, ?_⟩
      rw [HLE.out, ← HER.out, show (xs.eraseIdx k).map (ptrC L) = (xs.map (ptrC L)).eraseIdx k by simp [List.eraseIdx_eq_take_drop_succ]]
      exact ho3
    clear ho3 hg3
    go_wp2_with fail
    go_ret
    exact ⟨_, rfl, HF.out⟩
  · have HE : Hid (idxM xs i = -1) := if_neg hm
    rw [HE.out] at HI
    have HER := Lib.hid (List.erase_of_not_mem hm)
    obtain ⟨sa, sc, rfl, _⟩ := own_shape ho
    clear ho hm
    go_enter Try.func79, Try.ntmps79
    go_wp2_with fail
    refine HI.out.mono ?_
    rintro e w2 ⟨rfl, rfl⟩
    go_wp2_with fail
    go_ret
    exact ⟨_, rfl, App.refl _, by rw [HER.out]; exact HO.out⟩

end
end Go.Proofs.Ytjlmooimdogmjaa
