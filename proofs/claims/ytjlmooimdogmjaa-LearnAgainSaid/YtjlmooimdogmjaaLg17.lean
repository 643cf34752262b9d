/- Bounds of a state (how many there may be); a row written in place, cleared behind its end; an append that has room. No conditions beyond those typed. · The contract of slices.Clone at slices of ints, whatever the slice. Conditions: the slice reads as ints, and is not too long. · Contracts of prop's Trail, Clause, Reason, isReason. Conditions: 64-bit ints; the prop lies in memory as 'MA' says. · Sets and tables of ints as Go's maps hold them: what a set has, how many it has. Holds for all lists; no conditions beyond those typed. -/
import Derived.Test.YtjlmooimdogmjaaLg16
import Derived.Test.YtjlmooimdogmjaaLg01
import Derived.Test.YtjlmooimdogmjaaLg00
import Derived.Test.YtjlmooimdogmjaaChecked
import Derived.Laws.Cover3
import Derived.WalkSmall
import Derived.Maps.OwnSet
import Derived.Maps.OwnOps
set_option linter.unusedVariables false
set_option linter.unusedSimpArgs false
namespace Go.Proofs.Ytjlmooimdogmjaa
open Go.RowKit

theorem pig {l : List Nat} {N : Nat} (h : l.Nodup) (hl : ∀ x ∈ l, x < N) : l.length ≤ N := by
  have := h.length_le_of_subset (l₂ := List.range N) (fun x hx => List.mem_range.2 (hl x hx))
  rwa [List.length_range] at this
theorem pigV {l : List Int} {N : Nat} (h : l.Pairwise fun x y => plc x ≠ plc y) (hl : ∀ x ∈ l, 1 ≤ plc x ∧ plc x ≤ N) : l.length ≤ N := by
  have h1 : (l.map fun x => plc x - 1).Nodup := by
    unfold List.Nodup
    rw [List.pairwise_map]
    refine h.imp_of_mem fun ha hb hne e => hne ?_
    have h1 := hl _ ha
    have h2 := hl _ hb
    omega
  have := pig (N := N) h1 (fun x hx => by
    obtain ⟨y, hy, rfl⟩ := List.mem_map.1 hx
    have := hl y hy
    omega)
  rwa [List.length_map] at this
section
variable {m : Mc}
theorem McW.tr_len (h : McW m) : m.tr.length ≤ m.n := pigV h.one fun _ hx => h.rgt hx
theorem McW.st_len (h : McW m) : m.st.length ≤ m.n := by
  have := pig (N := m.tr.length) (h.sorted.imp fun hlt => Nat.ne_of_lt hlt) h.lt
  have := h.tr_len
  omega
theorem McW.cl_one (h : McW m) {i : Nat} {c : List Int} (hc : m.cl i = some c) : c.Pairwise fun x y => plc x ≠ plc y := by
  obtain ⟨_, h2, h3⟩ := h.cls i c hc
  unfold List.Nodup at h2
  refine h2.imp_of_mem fun ha hb hne e => ?_
  rcases plc_pm e with e | e
  · exact hne e
  · exact (h3 _ hb).2 (by rw [← e]; exact ha)
theorem McW.cl_len (h : McW m) {i : Nat} {c : List Int} (hc : m.cl i = some c) : c.length ≤ m.n := pigV (h.cl_one hc) fun x hx => ((h.cls i c hc).2.2 x hx).1
theorem McW.cl_lit (h : McW m) {i : Nat} {c : List Int} (hc : m.cl i = some c) : (∀ l ∈ c, plc l ≤ m.n) ∧ c.length ≤ 1000000 := ⟨fun l hl => ((h.cls i c hc).2.2 l hl).1.2, by have := h.cl_len hc; have := h.n; omega⟩
theorem lst_of {F : Nat → Prop} (h : McW m) (l : McL m F) (hn : m.nx ≤ 1000000) : Lst m where
  wt := fun j x hx => by obtain ⟨_, a, b, r, h1, _⟩ := l.wtc j x hx; exact ⟨_, h1⟩
  lt := fun j x hx => by obtain ⟨_, a, r, h1, _⟩ := l.ltc j x hx; exact ⟨_, h1⟩
  wl := fun j => by
    have := pig (N := m.nx) (l.wtN j) fun x hx => by obtain ⟨_, a, b, r, h1, _⟩ := l.wtc j x hx; exact (h.cls x _ h1).1
    omega
  ll := fun j => by
    have := pig (N := m.nx) (l.ltN j) fun x hx => by obtain ⟨_, a, r, h1, _⟩ := l.ltc j x hx; exact (h.cls x _ h1).1
    omega
theorem lst_len {F : Nat → Prop} (h : McW m) (l : McL m F) : (∀ j, (m.wt j).length ≤ m.nx) ∧ (∀ j, (m.lt j).length ≤ m.nx) ∧ m.td.length ≤ m.nx :=
  ⟨fun j => pig (l.wtN j) fun x hx => by obtain ⟨_, a, b, r, h1, _⟩ := l.wtc j x hx; exact (h.cls x _ h1).1,
   fun j => pig (l.ltN j) fun x hx => by obtain ⟨_, a, r, h1, _⟩ := l.ltc j x hx; exact (h.cls x _ h1).1,
   pig l.tdn fun x hx => by obtain ⟨_, c, h1⟩ := l.tdF x hx; exact (h.cls x _ h1).1⟩
end

/-! ### Rows -/
/-- 'append(v, y)' where there is room, y just laid in a new block. -/
theorem wpList_appIn {ops : Array Oper} {rest : List Oper} {o : Oper} {a : Act} {Q : Exit → Act → World → Prop} (T E : TypeId) (z : Value) (bytes : Nat) (hT : Try.prog.underlying T = some (.slice E))
    (hE : (Try.prog.info? E).map (fun i => (i.zero, i.size, i.bytes)) = some (some z, 1, bytes)) (hgd : o.guard = none) (s x : Operand)
    (ho : o.op = .call { callee := .builtin .append, args := #[s, x], argTypes := #[T, T] })
    (wr : World) (g n cap : Nat) (y : Value) (hy : y.oneCell' = true) (hn : n + 1 ≤ cap) (hg : g < wr.heap.size) (hc : (wr.cell? ⟨g, n, none⟩).isSome = true) (hf : wr.frozen? ⟨g, n, none⟩ = false)
    (nb : Nat) (hnb : nb = wr.heap.size) (hs : a.eval s = .slice (some ⟨g, 0, none⟩) n cap) (hx : a.eval x = .slice (some ⟨nb, 0, none⟩) 1 1)
    (h : wpList Try.prog ops Q rest (a.put o.dst (.slice (some ⟨g, 0, none⟩) (n + 1) cap)) ((wr.alloc (.cells #[y] E)).setCell ⟨g, n, none⟩ y)) :
    wpList Try.prog ops Q (o :: rest) a (wr.alloc (.cells #[y] E)) := by
  subst hnb
  obtain ⟨i0, hi, hz0, hz1, hz2⟩ := info_parts hE
  have hb := Below.heap_alloc wr (.cells #[y] E) _ hg
  refine wpList_plain hgd fun K hK => ?_
  have hrun := run_append_room_cells (P := Try.prog) (wr.alloc (.cells #[y] E)) T o.type E i0 hT hi g 0 n cap ⟨wr.heap.size, 0, none⟩ 1 1 [y] (by rw [hz1]; rfl) (fun j u hj => by
    match j, hj with
    | 0, hj => simp at hj; subst hj; simp [Addr.add]) (fun u hu => by simp at hu; subst hu; exact hy) hn (fun j hj => by
      obtain rfl : j = 0 := by simp at hj; exact hj
      rw [hz1, Nat.mul_one, Nat.zero_add, Nat.add_zero, World.cell?_of_block (a := ⟨g, n, none⟩) hb]; exact hc) (fun j hj => by
      obtain rfl : j = 0 := by simp at hj; exact hj
      rw [hz1, Nat.mul_one, Nat.zero_add, Nat.add_zero, World.frozen?_of_block (a := ⟨g, n, none⟩) hb]; exact hf)
  rw [hz1, Nat.mul_one, Nat.zero_add] at hrun
  unfold Oper.wp execOp
  simp only [ho, resolve, invoke, builtin, Sem.run_bind, Sem.run_pure, Result.andThen_ok, List.map_toArray, List.map_cons, List.map_nil, hs, hx, hrun]
  exact hK _ _ h
theorem run_clear_none (w : World) (ty : TypeId) (a : Option Addr) (c : Nat) : (Builtin.clear_ #[65] ty #[.slice a 0 c]).run Try.prog w = .ok (.tuple #[]) w := by
  cases a <;> simp [Builtin.clear_, run_underlying Try.underlying65, Result.andThen, storeCells, Builtin.zeroCells]
section
variable {w w' : World} {ρ ρ' : Nat → Option Rl} {L : Lay} {m : Mc}
theorem Part.of_only (h : MA w ρ L m) {b : Nat} {r0 : Rl} (hr : ρ b = some r0) (ho : Only b w w') : Part w' ρ L m r0 := ⟨h.lt' ho.size, h.hi, fun _ hne => h.rest hr ho hne⟩
theorem only_setCells (b : Nat) : ∀ (xs : List Value) (o : Nat) (w : World), Only b w (w.setCells b o xs)
  | [], _, w => Only.refl b w
  | v :: r, o, w => (Only.setCell w b o v).trans (only_setCells b r (o + 1) _)
theorem own_beyonds {B : Nat} {e : TypeId} {g n cap : Nat} {ys : List Value} : ∀ (xs : List Value) (o : Nat) (w : World), w.ownsRow B e 1 (.slice (some ⟨g, 0, none⟩) n cap) n ys → n ≤ o → (w.setCells g o xs).ownsRow B e 1 (.slice (some ⟨g, 0, none⟩) n cap) n ys
  | [], _, _, h, _ => h
  | v :: r, o, w, h, hn => own_beyonds r (o + 1) _ (own_beyond h o v hn) (by omega)
/-- A row of those that watch is written in place. -/
theorem MA.wset (h : MA w ρ L m) {j g N cap : Nat} (e : L.wv j = .slice (some ⟨g, 0, none⟩) N cap) (q i : Nat) (hq : q < (m.wt j).length) : MA (w.setCell ⟨g, q, none⟩ (ptrC L i)) ρ L { m with wt := upd m.wt j ((m.wt j).set q i) } where
  lt := h.lt' (Only.setCell _ _ _ _).size
  hi := h.hi
  at' := fun r => by
    have hg : ρ g = some (.w j) := (h.at' (.w j)).2 g (by rw [e]; rfl)
    have hk : r ≠ .w j → At ρ (w.setCell ⟨g, q, none⟩ (ptrC L i)) L m r := fun hne => h.rest hg (Only.setCell _ _ _ _) hne
    cases r with
    | w j' =>
      by_cases ej : j' = j
      · subst ej
        have ho := (h.at' (.w j')).1
        have hN : N = (m.wt j').length := by
          obtain ⟨a', c', e', _⟩ := own_shape ho
          rw [e] at e'
          injection e' with _ h2 _
          simpa using h2
        rw [e, List.length_map, ← hN] at ho
        have := own_setAt ho q (ptrC L i) (by rw [List.length_map]; exact hq)
        rw [← List.map_set] at this
        show RolA ρ _ (.w j') _ (L.wv j') ((upd m.wt j' _ j').map _)
        rw [upd_same]
        refine ⟨?_, (h.at' (.w j')).2⟩
        rw [List.length_map, List.length_set, ← hN, e]
        exact this
      · show RolA ρ _ (.w j') _ (L.wv j') ((upd m.wt j _ j').map _)
        rw [upd_ne _ _ ej]
        exact hk (fun e' => ej (by injection e'))
    | _ => exact hk (by nofun)
end
end Go.Proofs.Ytjlmooimdogmjaa

namespace Go.Proofs.Ytjlmooimdogmjaa
open Go.RowKit

theorem eqN_I (a : Option Addr) (l c : Nat) (w : World) : (binOp .eql 22 (.slice a l c) (.slice none 0 0)).run Try.prog w = .ok (.bool a.isNone) w := by
  have h := run_equal_slice_nil (P := Try.prog) (w := w) 22 3 a l c Try.underlying22
  simp [binOp, h, Result.andThen]
theorem own_empty (w : World) (B : Nat) (E : TypeId) (s : Nat) (hB : B ≤ w.heap.size) : (w.alloc (.cells #[] E)).ownsRow B E s (.slice (some ⟨w.heap.size, 0, none⟩) 0 0) 0 [] :=
  ⟨by simp, .inr ⟨w.heap.size, 0, _, rfl, hB, heap_alloc_new w _, Nat.le_refl _, by unfold maxLen; omega, by simp, by simp⟩⟩

set_option maxRecDepth 8000 in
set_option maxHeartbeats 2000000 in
theorem cloneI_any (v : Value) (xs : List Int) (w : World) (hv : Row w v xs) (hn : xs.length ≤ 1000000) :
    Calls Try.prog 60 #[v] w fun e w' => (∃ u, e = .returned u ∧ w'.ownsRow w.heap.size 3 1 u xs.length (xs.map (Value.int .i64))) ∧ Below w.heap.size w w' := by
  obtain ⟨av, cv, rfl, hv1, hv2, hv3⟩ := hv
  cases av with
  | none =>
    have h0 : xs.length = 0 := by
      rcases hv3 with h | ⟨b, off, e, _⟩
      · exact h
      · cases e
    have hp : xs = [] := List.eq_nil_of_length_eq_zero h0
    subst hp
    clear hv1 hv2 hv3 h0
    have hnl := eqN_I
    go_enter Try.func60, Try.ntmps60
    go_wp2_with fail
    go_ret
    exact ⟨⟨_, rfl, ⟨rfl, .inl ⟨rfl, rfl⟩⟩⟩, Below.refl _ _⟩
  | some ad =>
    obtain ⟨i0, hi, hz0, hz1, hz2⟩ := info_parts infoInt
    have HI := Lib.hid (And.intro hi (And.intro hz0 (And.intro hz1 hz2))); clear hi hz0 hz1 hz2
    have HCE : Hid (∀ j u, (xs.map (Value.int .i64))[j]? = some u → (w.alloc (.cells #[] 3)).cell? (ad.add j) = some u) := fun j u hj => by
      have hjl : j < xs.length := by
        rcases Nat.lt_or_ge j xs.length with h | h
        · exact h
        · rw [List.getElem?_eq_none (by simpa using h)] at hj; cases hj
      obtain ⟨b, off, e, hb, hc⟩ := hv3.resolve_left (by omega)
      have e := Option.some.inj e
      subst e
      have hbw : Below w.heap.size w (w.alloc (.cells #[] 3)) := (Below.refl _ _).alloc (Nat.le_refl _) _
      have hadd : ∀ k, (⟨b, off, none⟩ : Addr).add k = ⟨b, off + k, none⟩ := fun k => by
        by_cases e : k = 0
        · subst e; rfl
        · simp [Addr.add, e]
      rw [hadd, hbw.cell (p := ⟨b, off + j, none⟩) hb, hc j hjl]
      simp [hjl] at hj
      simp [List.getD, hjl, hj]
    have HONE : Hid (∀ u ∈ xs.map (Value.int .i64), u.oneCell' = true) := fun u hu => by
      obtain ⟨x, _, rfl⟩ := List.mem_map.1 hu
      rfl
    have HLEN : Hid ((xs.map (Value.int .i64)).length = xs.length * 1) := by unfold Hid; simp
    clear hv1 hv3
    generalize xs.map (Value.int .i64) = cs at *
    generalize xs.length = n at *
    have hnl := eqN_I
    go_enter Try.func60, Try.ntmps60
    go_wp2_with (at_builtin; refine wpList_append_own _ rfl _ _ 22 rfl w.heap.size 3 i0 _ 1 8 Try.underlying22 HI.out.1 HI.out.2.1 HI.out.2.2.1 HI.out.2.2.2 rfl (by decide) (.slice (some ⟨w.heap.size, 0, none⟩) 0 0) 0 [] rfl (own_empty w w.heap.size 3 1 (Nat.le_refl _)) ad n cv cs rfl HLEN.out HCE.out HONE.out (by unfold maxLen; omega) (by omega) (by simp) ?_; intro v' w' hown' hgrow hnil; have HPR := Lib.hid hown'; have hbw : Below w.heap.size w w' := ((Below.refl _ w).alloc (Nat.le_refl _) _).grown hgrow (by simp) (fun k hk => by cases hk; exact Nat.le_refl _); clear hown' hgrow hnil)
    go_ret
    exact ⟨⟨_, rfl, by simpa using HPR.out⟩, hbw⟩
end Go.Proofs.Ytjlmooimdogmjaa

namespace Go.Proofs.Ytjlmooimdogmjaa
open Go.RowKit Go.Maps

theorem lawI : Keyed Try.prog 3 := int_keyed Try.underlying3
theorem keyI (v : Int) (h1 : -9223372036854775808 ≤ v) (h2 : v ≤ 9223372036854775807) : keyOf Try.prog 3 (.int .i64 v) = some (.int .i64 v) :=
  keyOf_int_mk Try.underlying3 (WalkArith.wf_i64 ⟨by omega, by omega⟩)
section
variable {w : World} {ρ : Nat → Option Rl} {L : Lay} {m : Mc}
/-- 'p.clauses[id]'. -/
theorem MA.look (h : MA w ρ L m) (hm : ∀ i, m.mp i = (m.cl i).isSome) (i : Int) (h1 : -9223372036854775808 ≤ i) (h2 : i ≤ 9223372036854775807) :
    (∃ c, 0 ≤ i ∧ m.cl i.toNat = some c ∧ (Instr.lookup 64 (.map (some L.mb)) (.int .i64 i) false).run Try.prog w = .ok (ptrC L i.toNat) w) ∨
    ((i < 0 ∨ m.cl i.toNat = none) ∧ (Instr.lookup 64 (.map (some L.mb)) (.int .i64 i) false).run Try.prog w = .ok (.pointer none) w) := by
  obtain ⟨N, D, ho, _, hD⟩ := (h.at' .mp).2
  obtain ⟨v, ps, hrun, hv⟩ := ho.lookup lawI Try.underlying64 (zeroPc w) (zd := .nil) (zp := []) rfl (keyI i h1 h2)
  rw [hD i h1 h2] at hv
  unfold atC at hv
  by_cases hc : 0 ≤ i ∧ m.mp i.toNat = true
  · rw [if_pos hc] at hv
    rw [hm] at hc
    obtain ⟨c, hcl⟩ := Option.isSome_iff_exists.1 hc.2
    exact .inl ⟨c, hc.1, hcl, by rw [hrun, ptrElem_inv hv]; rfl⟩
  · rw [if_neg hc] at hv
    refine .inr ⟨?_, by rw [hrun, ptrElem_inv_nil hv]⟩
    rw [hm] at hc
    rcases Int.lt_or_le i 0 with h0 | h0
    · exact .inl h0
    · right
      cases hcl : m.cl i.toNat with
      | none => rfl
      | some c => rw [hcl] at hc; exact absurd ⟨h0, rfl⟩ hc

set_option maxRecDepth 8000 in
set_option maxHeartbeats 2000000 in
theorem mtrl_any (h : MA w ρ L m) (ht : m.tr.length ≤ 4000) :
    Calls Try.prog 61 #[ptrP L] w fun e w' => (∃ u, e = .returned u ∧ w'.ownsRow w.heap.size 3 1 u m.tr.length (m.tr.map (Value.int .i64))) ∧ Below w.heap.size w w' := by
  have c2 := h.pc.c2
  have hr : Row w L.trv m.tr := own_row (h.at' .tr).1
  obtain ⟨a, c, e, _⟩ := ro_shape (h.at' .tr)
  have HC := Lib.hid (cloneI_any L.trv m.tr w hr (by omega))
  rw [List.length_map] at e
  rw [e] at c2 HC
  clear h hr e
  unfold ptrP
  go_enter Try.func61, Try.ntmps61
  go_wp2_with fail
  refine HC.out.mono ?_
  rintro e w1 ⟨⟨u, rfl, ho⟩, hb⟩
  have HO := Lib.hid ho
  have HB := Lib.hid hb
  obtain ⟨a1, c1, rfl, _⟩ := own_shape ho
  clear ho hb
  go_wp2_with fail
  go_ret
  exact ⟨⟨_, rfl, HO.out⟩, HB.out⟩

set_option maxRecDepth 8000 in
set_option maxHeartbeats 2000000 in
theorem mcls_any (h : MA w ρ L m) (hw : McW m) (i : Int) (h1 : -9223372036854775808 ≤ i) (h2 : i ≤ 9223372036854775807) :
    Calls Try.prog 31 #[ptrP L, .int .i64 i] w fun e w' => (∃ u, e = .returned u ∧ Row w' u (if i < 0 then [] else (m.cl i.toNat).getD [])) ∧ Below w.heap.size w w' := by
  have c5 := h.pc.c5
  unfold ptrP
  rcases h.look hw.mps i h1 h2 with ⟨c, h0, hc, hrun⟩ | ⟨hc, hrun⟩
  · rw [show ptrC L i.toNat = .pointer (some ⟨L.cb i.toNat, 0, none⟩) from rfl] at hrun
    have q1 := (h.cells hc).2
    have ho := h.lit hc
    obtain ⟨a, cc, e, _⟩ := own_shape ho
    have HE : Hid ((if i < 0 then [] else (m.cl i.toNat).getD []) = c) := by unfold Hid; rw [if_neg (by omega), hc]; rfl
    have HC := Lib.hid (cloneI_any (L.cv i.toNat) c w (own_row ho) (hw.cl_lit hc).2)
    rw [e] at q1 HC
    rw [HE.out]
    clear h ho e hc
    generalize L.cb i.toNat = b at *
    go_enter Try.func31, Try.ntmps31
    go_wp2_with fail
    refine HC.out.mono ?_
    rintro e w1 ⟨⟨u, rfl, ho⟩, hb⟩
    have HO := Lib.hid ho
    have HB := Lib.hid hb
    obtain ⟨a1, c1, rfl, _⟩ := own_shape ho
    clear ho hb
    go_wp2_with fail
    go_ret
    exact ⟨⟨_, rfl, own_row HO.out⟩, HB.out⟩
  · have HE : Hid ((if i < 0 then [] else (m.cl i.toNat).getD []) = ([] : List Int)) := by
      unfold Hid
      rcases hc with hc | hc
      · rw [if_pos hc]
      · rw [hc]; simp
    rw [HE.out]
    clear h hc
    go_enter Try.func31, Try.ntmps31
    go_wp2_with fail
    go_ret
    exact ⟨⟨_, rfl, own_row (xs := []) (World.ownsRow_nil w 0 3 1)⟩, Below.refl _ _⟩

end
end Go.Proofs.Ytjlmooimdogmjaa

namespace Go.Proofs.Ytjlmooimdogmjaa
open Go.RowKit Go.Maps

theorem zeroU (w : World) : (zeroValue 86).run Try.prog w = .ok (.agg #[]) w := by kernel_rfl
/-- A set of ints as the map that it is. -/
def setI (zs : List Int) : DataW Unit := setOf (.agg []) (zs.map (Lit.int .i64))
theorem setI_snoc (zs : List Int) (v : Int) : setI (zs ++ [v]) = (setI zs).put (.int .i64 v) (.agg []) := by
  unfold setI
  rw [List.map_append, List.map_cons, List.map_nil, setOf_snoc]
theorem setI_has (zs : List Int) (v : Int) : Maps.has (setI zs) (.int .i64 v) = zs.contains v := by
  unfold setI
  rw [has_setOf _ _ _ (by intro x hx; obtain ⟨y, _, rfl⟩ := List.mem_map.1 hx; trivial)]
  rw [Bool.eq_iff_iff, List.any_eq_true, List.contains_iff_mem]
  constructor
  · rintro ⟨x, hx, he⟩
    obtain ⟨y, hy, rfl⟩ := List.mem_map.1 hx
    have : y = v := by simpa [Lit.sameKey] using he
    rw [← this]; exact hy
  · intro h
    exact ⟨_, List.mem_map_of_mem h, by simp [Lit.sameKey]⟩
theorem setI_nil : setI [] = .map [] := by simp [setI, setOf]
theorem setI_tidy (zs : List Int) : Tidy (setI zs) := tidy_fold _ _ _ tidy_empty (by intro x hx; obtain ⟨y, _, rfl⟩ := List.mem_map.1 hx; trivial)
theorem ownsMap_block {P : Program} {w w' : World} {k : TypeId} {R : Value → Option (DataW Unit × List MemPlace)} {b n : Nat} {D : DataW Unit} (h : w.ownsMap P k R b n D) (he : w'.heap[b]? = w.heap[b]?) : w'.ownsMap P k R b n D := by
  obtain ⟨es, clock, h1, h2⟩ := h
  exact ⟨es, clock, he.trans h1, h2⟩
/-- Each once, as it came first. -/
def ddL (zs : List Int) : List Int := zs.foldl (fun a v => if v ∈ a then a else a ++ [v]) []
theorem ddL_snoc (zs : List Int) (v : Int) : ddL (zs ++ [v]) = if v ∈ ddL zs then ddL zs else ddL zs ++ [v] := by unfold ddL; rw [List.foldl_append]; rfl
theorem snoc_ind {P : List Int → Prop} (h0 : P []) (h1 : ∀ l x, P l → P (l ++ [x])) (l : List Int) : P l := by
  rw [← List.reverse_reverse l]
  induction l.reverse with
  | nil => exact h0
  | cons x l ih => rw [List.reverse_cons]; exact h1 _ _ ih
theorem mem_ddL (zs : List Int) (v : Int) : v ∈ ddL zs ↔ v ∈ zs := by
  revert v
  refine snoc_ind (P := fun zs => ∀ v, v ∈ ddL zs ↔ v ∈ zs) (fun v => Iff.rfl) (fun zs x ih v => ?_) zs
  rw [ddL_snoc]
  by_cases h : x ∈ ddL zs
  · rw [if_pos h, ih, List.mem_append]
    exact ⟨.inl, fun hh => hh.elim id fun e => by simp at e; rw [e]; exact (ih x).1 h⟩
  · rw [if_neg h, List.mem_append, List.mem_append, ih]
theorem size_setI (zs : List Int) : Maps.size (setI zs) = (ddL zs).length := by
  refine snoc_ind (P := fun zs => Maps.size (setI zs) = (ddL zs).length) (by rw [setI_nil]; rfl) (fun zs x ih => ?_) zs
  rw [setI_snoc, size_put (setI_tidy zs), setI_has, ddL_snoc, ih]
  by_cases h : x ∈ zs
  · rw [if_pos (List.contains_iff_mem.2 h), if_pos ((mem_ddL zs x).2 h)]
  · rw [if_neg (fun hh => h (List.contains_iff_mem.1 hh)), if_neg (fun hh => h ((mem_ddL zs x).1 hh)), List.length_append]; rfl
theorem ddL_len (zs : List Int) : (ddL zs).length ≤ zs.length := by
  refine snoc_ind (P := fun zs => (ddL zs).length ≤ zs.length) (Nat.le_refl _) (fun zs x ih => ?_) zs
  rw [ddL_snoc]
  split <;> simp <;> omega
end Go.Proofs.Ytjlmooimdogmjaa
