/- Where the errors lie: package api's, and dimacs' own (errLack); the handle of errors.errorType. errors.Is against errLack by its contracts. Conditions: as 'Sents8' says. -/
import Derived.Test.YtfoohdknjacenaaDoorFault
import Derived.Stop.Asserts
import Derived.RowKitTokens
import Derived.LaidHandle
namespace Go.Proofs.YtfoohdknjacenaaDoor
open Go.RowKit Go.Extern.Stop Go.Stop Go.Extern

structure Sents8 (w : World) (A : Nat → Addr) : Prop extends Sents w A where
  c7 : w.cell? ⟨2, 0, none⟩ = some (.iface 155 (.pointer (some (A 7))))
  ne7 : ∀ i, i < 7 → A i ≠ A 7
  row7 : ∃ c t, w.heap[(A 7).block]? = some (.cells c t (0, 0))
  hd : w.cell? ⟨3, 0, none⟩ = some (.iface 127 (.agg #[.pointer (some ⟨13, 37, none⟩)]))

theorem Sents8.keep {w w' : World} {A : Nat → Addr} (h : Sents8 w A) (hb : Below w.heap.size w w') : Sents8 w' A := by
  have k : ∀ g v, w.cell? ⟨g, 0, none⟩ = some v → w'.cell? ⟨g, 0, none⟩ = some v := fun g v e => (hb.cell (p := ⟨g, 0, none⟩) (World.block_lt_of_cell? w _ e)).trans e
  refine ⟨h.toSents.keep hb, k _ _ h.c7, h.ne7, ?_, k _ _ h.hd⟩
  obtain ⟨c, t, e⟩ := h.row7
  have hlt : (A 7).block < w.heap.size := by
    rcases Nat.lt_or_ge (A 7).block w.heap.size with h' | h'
    · exact h'
    · rw [Array.getElem?_eq_none h'] at e; cases e
  exact ⟨c, t, (hb.block _ hlt).trans e⟩

/-- The eight errors' names, as the rows list them. -/
def sentL8 : List (String × List UInt8) := sentL ++ [("skolem/dimacs.errLack", [119, 111, 114, 100, 115, 32, 108, 97, 99, 107])]
theorem gs7 : Tryd.prog.globalNamed "skolem/dimacs.errLack" = some 2 := by kernel_rfl
theorem gty8 : ((sentL8.map fun x => (Tryd.prog.globalNamed x.1).bind fun g => (Tryd.prog.globals[g]?).map (·.type)).all fun t => t == some 37) = true := by kernel_rfl
theorem herr : Tryd.prog.globalNamed "errors.errorType" = some 3 := by kernel_rfl
theorem hrt : (Tryd.prog.cutTypes.find? (·.1 == "internal/reflectlite.rtype")).map (·.2) = some 127 := by kernel_rfl
theorem hrow1 : ((List.range (288 - 100)).filter fun t => Tryd.prog.rowNamed t [101, 114, 114, 111, 114]) = [37] := by kernel_rfl
theorem hsz1 : Tryd.prog.types.size = 288 - 100 := by kernel_rfl

theorem sents8_met {W : World} {ps : List MemPlace} {H : List (String × DataW Unit)} (hl : DataW.LaidVars Tryd.prog W (sentL8.map sentD) ps) (hnd : ps.Nodup)
    (hrows : ∀ b off, MemPlace.cell b off ∈ ps → (∃ c t, W.heap[b]? = some (.cells c t (0, 0))) ∧ ∀ u v, W.cell? ⟨b, off, none⟩ = some (.iface u v) → Value.okWide Tryd.prog W .any 0 u v)
    (hH : handlesMet Tryd.prog H W) (hm : ("errors.errorType", (.iface "internal/reflectlite.rtype" (.agg [.ptr (.lit (.string [101, 114, 114, 111, 114]))]) : DataW Unit)) ∈ H) : ∃ A, Sents8 W A := by
  have hd : W.cell? ⟨3, 0, none⟩ = some (.iface 127 (.agg #[.pointer (some ⟨13, 37, none⟩)])) := by
    obtain ⟨name, u, ty, e1, e2, e3, e4, e5⟩ := hH _ hm
    have en : name = [101, 114, 114, 111, 114] := (Option.some.inj e1).symm
    subst en
    obtain rfl := Option.some.inj (hrt.symm.trans e2)
    have hm : ty ∈ (List.range (288 - 100)).filter fun t => Tryd.prog.rowNamed t [101, 114, 114, 111, 114] := List.mem_filter.2 ⟨List.mem_range.2 (by rw [← hsz1]; exact e3), e4⟩
    rw [hrow1] at hm
    obtain rfl := List.mem_singleton.1 hm
    have hh : typeHandle Tryd.prog 37 = .pointer (some ⟨13, 37, none⟩) := by kernel_rfl
    rw [hh] at e5
    simpa using World.var?_cell herr e5 0
  obtain ⟨gs, hlen, rfl, hg⟩ := sents_of Tryd.underlying37 rowES Tryd.underlying155 Tryd.underlying176 rfl rfl Tryd.underlying9 (by kernel_rfl) (by kernel_rfl) sentL8 ps hl
    (fun x hx g hg => by
      have := List.all_eq_true.1 gty8 _ (List.mem_map_of_mem hx)
      simpa [hg] using this) hrows
  have hA : ∀ i, i < 8 → ∃ a g, gs[i]? = some (g, a) := fun i hi => by
    obtain ⟨g, a, e, _⟩ := hg i hi
    exact ⟨a, g, e⟩
  have hrw : ∀ i, i < 8 → ∃ (c : Array Value) (t : TypeId), W.heap[(((gs[i]?).map (fun x : Nat × Addr => x.2)).getD default).block]? = some (Obj.cells c t (0, 0)) := fun i hi => by
    obtain ⟨a, g, e⟩ := hA i hi
    simp only [e, Option.map_some, Option.getD_some]
    exact (hrows a.block a.off (by rw [List.mem_flatMap]; exact ⟨(g, a), List.mem_of_getElem? e, by simp⟩)).1
  have hne : ∀ i j, i < 8 → j < 8 → i ≠ j → ((gs[i]?).map (fun x : Nat × Addr => x.2)).getD default ≠ ((gs[j]?).map (fun x : Nat × Addr => x.2)).getD default := fun i j hi hj hne => by
    obtain ⟨a, g, e⟩ := hA i hi
    obtain ⟨a', g', e'⟩ := hA j hj
    simp only [e, e', Option.map_some, Option.getD_some]
    exact flat_nodup gs hnd i j g a g' a' e e' hne
  refine ⟨fun i => ((gs[i]?).map (·.2)).getD default, ⟨?_, ?_, ?_, ?_, ?_, ?_, ?_, fun i j hi hj => hne i j (by omega) (by omega), fun i hi => hrw i (by omega)⟩, ?_, fun i hi => hne i 7 (by omega) (by omega) (by omega), hrw 7 (by omega), hd⟩
  · obtain ⟨g, a, e, hn, hc, _⟩ := hg 0 (by decide); obtain rfl := Option.some.inj (gs0.symm.trans hn); simpa [e] using hc
  · obtain ⟨g, a, e, hn, hc, _⟩ := hg 1 (by decide); obtain rfl := Option.some.inj (gs1.symm.trans hn); simpa [e] using hc
  · obtain ⟨g, a, e, hn, hc, _⟩ := hg 2 (by decide); obtain rfl := Option.some.inj (gs2.symm.trans hn); simpa [e] using hc
  · obtain ⟨g, a, e, hn, hc, _⟩ := hg 3 (by decide); obtain rfl := Option.some.inj (gs3.symm.trans hn); simpa [e] using hc
  · obtain ⟨g, a, e, hn, hc, _⟩ := hg 4 (by decide); obtain rfl := Option.some.inj (gs4.symm.trans hn); simpa [e] using hc
  · obtain ⟨g, a, e, hn, hc, _⟩ := hg 5 (by decide); obtain rfl := Option.some.inj (gs5.symm.trans hn); simpa [e] using hc
  · obtain ⟨g, a, e, hn, hc, _⟩ := hg 6 (by decide); obtain rfl := Option.some.inj (gs6.symm.trans hn); simpa [e] using hc
  · obtain ⟨g, a, e, hn, hc, _⟩ := hg 7 (by decide); obtain rfl := Option.some.inj (gs7.symm.trans hn); simpa [e] using hc

/-! errors.Is -/
theorem isTypeOf (v : Value) (w : World) : (Extern.ReflectliteType.typeOf #[.iface 155 v]).run Tryd.prog w = .ok (.iface 127 (.agg #[.pointer (some ⟨13, 155, none⟩)])) w := by kernel_rfl
theorem isComparable (w : World) : ((Extern.ReflectliteType.method fun t => do Extern.Rtype.noPackHeld "Comparable" t; (fun a => Value.bool a.comparable) <$> typeInfo t) #[.agg #[.pointer (some ⟨13, 155, none⟩)]]).run Tryd.prog w = .ok (.bool true) w := by kernel_rfl
theorem isMethodComparable (v : Value) (w : World) : (Go.method 288 127 v "Comparable").run Tryd.prog w = .ok (106, v) w := by kernel_rfl
theorem noIsE (v : Value) (xT : TypeId) (w : World) : (Instr.typeAssert (.iface 155 v) xT 129 true).run Tryd.prog w = .ok (.tuple #[.nilIface, .bool false]) w := run_typeAssert_lacksB Tryd.underlying129 (by kernel_rfl) (by kernel_rfl) v xT w
theorem noUnwrapE (v : Value) (xT : TypeId) (w : World) : (Instr.typeAssert (.iface 155 v) xT 132 true).run Tryd.prog w = .ok (.tuple #[.nilIface, .bool false]) w := run_typeAssert_lacksB Tryd.underlying132 (by kernel_rfl) (by kernel_rfl) v xT w
theorem noUnwrapsE (v : Value) (xT : TypeId) (w : World) : (Instr.typeAssert (.iface 155 v) xT 134 true).run Tryd.prog w = .ok (.tuple #[.nilIface, .bool false]) w := run_typeAssert_lacksB Tryd.underlying134 (by kernel_rfl) (by kernel_rfl) v xT w
theorem noIsW (v : Value) (xT : TypeId) (w : World) : (Instr.typeAssert (.iface 68 v) xT 129 true).run Tryd.prog w = .ok (.tuple #[.nilIface, .bool false]) w := run_typeAssert_lacksB Tryd.underlying129 (by kernel_rfl) (by kernel_rfl) v xT w
theorem hasUnwrapW (v : Value) (xT : TypeId) (w : World) : (Instr.typeAssert (.iface 68 v) xT 132 true).run Tryd.prog w = .ok (.tuple #[.iface 68 v, .bool true]) w := run_typeAssert_hasB Tryd.underlying132 (by kernel_rfl) v xT w
theorem methodUnwrap (v : Value) (w : World) : (Go.method 288 68 v "Unwrap").run Tryd.prog w = .ok (100, v) w := by kernel_rfl

set_option maxHeartbeats 1000000 in
theorem is_same (a : Addr) (w : World) :
    Calls Tryd.prog 47 #[.iface 155 (.pointer (some a)), .iface 155 (.pointer (some a))] w fun e w' => e = .returned (.bool true) ∧ w = w' := by
  obtain ⟨i, hi, hcmp⟩ := Option.map_eq_some_iff.1 compES
  obtain ⟨j, hj, hjs⟩ := Option.map_eq_some_iff.1 sizeES
  have h8 := @run_callFunc_extern Tryd.prog 59 _ Extern.ReflectliteType.typeOf Tryd.func59 (by kernel_rfl) (by kernel_rfl) (by kernel_rfl) (by kernel_rfl)
  have h32 := @run_callFunc_extern Tryd.prog 106 _ (Extern.ReflectliteType.method fun t => do Extern.Rtype.noPackHeld "Comparable" t; pure (.bool (← typeInfo t).comparable)) Tryd.func106 (by kernel_rfl) (by kernel_rfl) (by kernel_rfl) (by kernel_rfl)
  have tT := isTypeOf
  have cT := isComparable
  have mR := isMethodComparable
  have heq := run_eql_iface_ptr_same (P := Tryd.prog) w a Tryd.underlying37 Tryd.underlying155 hi hcmp hj
  go_enter Tryd.func47, Tryd.ntmps47
  go_wp2
  refine wp_loop_rounds 1 ?_
  rw [rounds_succ]
  go_wp2
  go_ret
  exact ⟨rfl, rfl⟩

set_option maxHeartbeats 1000000 in
theorem is_nil (b : Addr) (w : World) :
    Calls Tryd.prog 47 #[.nilIface, .iface 155 (.pointer (some b))] w fun e w' => e = .returned (.bool false) ∧ w = w' := by
  have hn := run_eql_iface_nil_left (P := Tryd.prog) w 155 (.pointer (some b)) Tryd.underlying37
  go_enter Tryd.func47, Tryd.ntmps47
  go_wp2
  go_ret
  exact ⟨rfl, rfl⟩

set_option maxHeartbeats 2000000 in
theorem is_at (pb : Nat) (b a : Addr) (ca cb : Array Value) (ta tb : TypeId) (w : World) (h1 : w.cell? ⟨pb, 1, none⟩ = some (.iface 155 (.pointer (some a)))) (hne : a ≠ b) (ha : w.heap[a.block]? = some (.cells ca ta (0, 0))) (hb : w.heap[b.block]? = some (.cells cb tb (0, 0))) :
    Calls Tryd.prog 47 #[.iface 68 (.pointer (some ⟨pb, 0, none⟩)), .iface 155 (.pointer (some b))] w fun e w' => e = .returned (.bool false) ∧ w = w' := by
  obtain ⟨i, hi, hcmp⟩ := Option.map_eq_some_iff.1 compES
  obtain ⟨j, hj, hjs⟩ := Option.map_eq_some_iff.1 sizeES
  have h8 := @run_callFunc_extern Tryd.prog 59 _ Extern.ReflectliteType.typeOf Tryd.func59 (by kernel_rfl) (by kernel_rfl) (by kernel_rfl) (by kernel_rfl)
  have h32 := @run_callFunc_extern Tryd.prog 106 _ (Extern.ReflectliteType.method fun t => do Extern.Rtype.noPackHeld "Comparable" t; pure (.bool (← typeInfo t).comparable)) Tryd.func106 (by kernel_rfl) (by kernel_rfl) (by kernel_rfl) (by kernel_rfl)
  have tT := isTypeOf
  have cT := isComparable
  have mR := isMethodComparable
  have nE := noIsE
  have uE := noUnwrapE
  have vE := noUnwrapsE
  have nW := noIsW
  have uW := hasUnwrapW
  have mU := methodUnwrap
  have heq := run_eql_iface_ptr_other (P := Tryd.prog) w Tryd.underlying37 Tryd.underlying155 hi hcmp hj (by rw [hjs]; decide) hne ha hb
  have hty := run_eql_iface_types (P := Tryd.prog) 68 155 (.pointer (some ⟨pb, 0, none⟩)) (.pointer (some b)) Tryd.underlying37 (by decide) w
  go_enter Tryd.func47, Tryd.ntmps47
  go_wp2
  refine wp_loop_rounds 2 ?_
  rw [rounds_succ]
  go_wp2
  rw [rounds_succ]
  go_wp2
  go_ret
  exact ⟨rfl, rfl⟩
end Go.Proofs.YtfoohdknjacenaaDoor
