/- Where the errors lie: package api's, and dimacs' own (errLack); the handle of errors.errorType. errors.Is against errLack by its contracts. Conditions: as 'Sents8' says. -/
import Derived.Test.YtfoohdknjacenaaGreatDoorFault
import Derived.Stop.Asserts
import Derived.RowKitTokens
import Derived.LaidHandle
namespace Go.Proofs.YtfoohdknjacenaaGreatDoor
open Go.RowKit Go.Extern.Stop Go.Stop Go.Extern

structure Sents8 (w : World) (A : Nat → Addr) : Prop extends Sents w A where
  c7 : w.cell? ⟨3, 0, none⟩ = some (.iface 179 (.pointer (some (A 7))))
  ne7 : ∀ i, i < 7 → A i ≠ A 7
  row7 : ∃ c t, w.heap[(A 7).block]? = some (.cells c t (0, 0))
  hd : w.cell? ⟨4, 0, none⟩ = some (.iface 151 (.agg #[.pointer (some ⟨13, 31, none⟩)]))

theorem Sents8.keep {w w' : World} {A : Nat → Addr} (h : Sents8 w A) (hb : Below w.heap.size w w') : Sents8 w' A := by
  have k : ∀ g v, w.cell? ⟨g, 0, none⟩ = some v → w'.cell? ⟨g, 0, none⟩ = some v := fun g v e => (hb.cell (p := ⟨g, 0, none⟩) (World.block_lt_of_cell? w _ e)).trans e
  refine ⟨h.toSents.keep hb, k _ _ h.c7, h.ne7, ?_, k _ _ h.hd⟩
  obtain ⟨c, t, e⟩ := h.row7
  have hlt : (A 7).block < w.heap.size := by
    rcases Nat.lt_or_ge (A 7).block w.heap.size with h' | h'
    · exact h'
    · rw [Array.getElem?_eq_none h'] at e; cases e
  exact ⟨c, t, (hb.block _ hlt).trans e⟩

/-- The eight errors' names, as the rows list them. -/
def sentL8 : List (String × List UInt8) := sentL ++ [("skolem/dimacs.errLack", [119, 111, 114, 100, 115, 32, 108, 97, 99, 107])]
theorem gs7 : Tryz.prog.globalNamed "skolem/dimacs.errLack" = some 3 := by kernel_rfl
theorem gty8 : ((sentL8.map fun x => (Tryz.prog.globalNamed x.1).bind fun g => (Tryz.prog.globals[g]?).map (·.type)).all fun t => t == some 31) = true := by kernel_rfl
theorem herr : Tryz.prog.globalNamed "errors.errorType" = some 4 := by kernel_rfl
theorem hrt : (Tryz.prog.cutTypes.find? (·.1 == "internal/reflectlite.rtype")).map (·.2) = some 151 := by kernel_rfl
theorem hrow1 : ((List.range (312 - 100)).filter fun t => Tryz.prog.rowNamed t [101, 114, 114, 111, 114]) = [31] := by kernel_rfl
theorem hsz1 : Tryz.prog.types.size = 312 - 100 := by kernel_rfl

theorem sents8_met {W : World} {ps : List MemPlace} {H : List (String × DataW Unit)} (hl : DataW.LaidVars Tryz.prog W (sentL8.map sentD) ps) (hnd : ps.Nodup)
    (hrows : ∀ b off, MemPlace.cell b off ∈ ps → (∃ c t, W.heap[b]? = some (.cells c t (0, 0))) ∧ ∀ u v, W.cell? ⟨b, off, none⟩ = some (.iface u v) → Value.okWide Tryz.prog W .any 0 u v)
    (hH : handlesMet Tryz.prog H W) (hm : ("errors.errorType", (.iface "internal/reflectlite.rtype" (.agg [.ptr (.lit (.string [101, 114, 114, 111, 114]))]) : DataW Unit)) ∈ H) : ∃ A, Sents8 W A := by
  have hd : W.cell? ⟨4, 0, none⟩ = some (.iface 151 (.agg #[.pointer (some ⟨13, 31, none⟩)])) := by
    obtain ⟨name, u, ty, e1, e2, e3, e4, e5⟩ := hH _ hm
    have en : name = [101, 114, 114, 111, 114] := (Option.some.inj e1).symm
    subst en
    obtain rfl := Option.some.inj (hrt.symm.trans e2)
    have hm : ty ∈ (List.range (312 - 100)).filter fun t => Tryz.prog.rowNamed t [101, 114, 114, 111, 114] := List.mem_filter.2 ⟨List.mem_range.2 (by rw [← hsz1]; exact e3), e4⟩
    rw [hrow1] at hm
    obtain rfl := List.mem_singleton.1 hm
    have hh : typeHandle Tryz.prog 31 = .pointer (some ⟨13, 31, none⟩) := by kernel_rfl
    rw [hh] at e5
    simpa using World.var?_cell herr e5 0
  obtain ⟨gs, hlen, rfl, hg⟩ := sents_of Tryz.underlying31 rowES Tryz.underlying179 Tryz.underlying200 rfl rfl Tryz.underlying9 (by kernel_rfl) (by kernel_rfl) sentL8 ps hl
    (fun x hx g hg => by
      have := List.all_eq_true.1 gty8 _ (List.mem_map_of_mem hx)
      simpa [hg] using this) hrows
  have hA : ∀ i, i < 8 → ∃ a g, gs[i]? = some (g, a) := fun i hi => by
    obtain ⟨g, a, e, _⟩ := hg i hi
    exact ⟨a, g, e⟩
  have hrw : ∀ i, i < 8 → ∃ (c : Array Value) (t : TypeId), W.heap[(((gs[i]?).map (fun x : Nat × Addr => x.2)).getD default).block]? = some (Obj.cells c t (0, 0)) := fun i hi => by
    obtain ⟨a, g, e⟩ := hA i hi
    simp only [e, Option.map_some, Option.getD_some]
    exact (hrows a.block a.off (by rw [List.mem_flatMap]; exact ⟨(g, a), List.mem_of_getElem? e, by simp⟩)).1
  have hne : ∀ i j, i < 8 → j < 8 → i ≠ j → ((gs[i]?).map (fun x : Nat × Addr => x.2)).getD default ≠ ((gs[j]?).map (fun x : Nat × Addr => x.2)).getD default := fun i j hi hj hne => by
    obtain ⟨a, g, e⟩ := hA i hi
    obtain ⟨a', g', e'⟩ := hA j hj
    simp only [e, e', Option.map_some, Option.getD_some]
    exact flat_nodup gs hnd i j g a g' a' e e' hne
  refine ⟨fun i => ((gs[i]?).map (·.2)).getD default, ⟨?_, ?_, ?_, ?_, ?_, ?_, ?_, fun i j hi hj => hne i j (by omega) (by omega), fun i hi => hrw i (by omega)⟩, ?_, fun i hi => hne i 7 (by omega) (by omega) (by omega), hrw 7 (by omega), hd⟩
  · obtain ⟨g, a, e, hn, hc, _⟩ := hg 0 (by decide); obtain rfl := Option.some.inj (gs0.symm.trans hn); simpa [e] using hc
  · obtain ⟨g, a, e, hn, hc, _⟩ := hg 1 (by decide); obtain rfl := Option.some.inj (gs1.symm.trans hn); simpa [e] using hc
  · obtain ⟨g, a, e, hn, hc, _⟩ := hg 2 (by decide); obtain rfl := Option.some.inj (gs2.symm.trans hn); simpa [e] using hc
  · obtain ⟨g, a, e, hn, hc, _⟩ := hg 3 (by decide); obtain rfl := Option.some.inj (gs3.symm.trans hn); simpa [e] using hc
  · obtain ⟨g, a, e, hn, hc, _⟩ := hg 4 (by decide); obtain rfl := Option.some.inj (gs4.symm.trans hn); simpa [e] using hc
  · obtain ⟨g, a, e, hn, hc, _⟩ := hg 5 (by decide); obtain rfl := Option.some.inj (gs5.symm.trans hn); simpa [e] using hc
  · obtain ⟨g, a, e, hn, hc, _⟩ := hg 6 (by decide); obtain rfl := Option.some.inj (gs6.symm.trans hn); simpa [e] using hc
  · obtain ⟨g, a, e, hn, hc, _⟩ := hg 7 (by decide); obtain rfl := Option.some.inj (gs7.symm.trans hn); simpa [e] using hc

/-! errors.Is -/
theorem isTypeOf (v : Value) (w : World) : (Extern.ReflectliteType.typeOf #[.iface 179 v]).run Tryz.prog w = .ok (.iface 151 (.agg #[.pointer (some ⟨13, 179, none⟩)])) w := by kernel_rfl
theorem isComparable (w : World) : ((Extern.ReflectliteType.method fun t => do Extern.Rtype.noPackHeld "Comparable" t; (fun a => Value.bool a.comparable) <$> typeInfo t) #[.agg #[.pointer (some ⟨13, 179, none⟩)]]).run Tryz.prog w = .ok (.bool true) w := by kernel_rfl
theorem isMethodComparable (v : Value) (w : World) : (Go.method 312 151 v "Comparable").run Tryz.prog w = .ok (134, v) w := by kernel_rfl
theorem noIsE (v : Value) (xT : TypeId) (w : World) : (Instr.typeAssert (.iface 179 v) xT 153 true).run Tryz.prog w = .ok (.tuple #[.nilIface, .bool false]) w := run_typeAssert_lacksB Tryz.underlying153 (by kernel_rfl) (by kernel_rfl) v xT w
theorem noUnwrapE (v : Value) (xT : TypeId) (w : World) : (Instr.typeAssert (.iface 179 v) xT 156 true).run Tryz.prog w = .ok (.tuple #[.nilIface, .bool false]) w := run_typeAssert_lacksB Tryz.underlying156 (by kernel_rfl) (by kernel_rfl) v xT w
theorem noUnwrapsE (v : Value) (xT : TypeId) (w : World) : (Instr.typeAssert (.iface 179 v) xT 158 true).run Tryz.prog w = .ok (.tuple #[.nilIface, .bool false]) w := run_typeAssert_lacksB Tryz.underlying158 (by kernel_rfl) (by kernel_rfl) v xT w
theorem noIsW (v : Value) (xT : TypeId) (w : World) : (Instr.typeAssert (.iface 95 v) xT 153 true).run Tryz.prog w = .ok (.tuple #[.nilIface, .bool false]) w := run_typeAssert_lacksB Tryz.underlying153 (by kernel_rfl) (by kernel_rfl) v xT w
theorem hasUnwrapW (v : Value) (xT : TypeId) (w : World) : (Instr.typeAssert (.iface 95 v) xT 156 true).run Tryz.prog w = .ok (.tuple #[.iface 95 v, .bool true]) w := run_typeAssert_hasB Tryz.underlying156 (by kernel_rfl) v xT w
theorem methodUnwrap (v : Value) (w : World) : (Go.method 312 95 v "Unwrap").run Tryz.prog w = .ok (128, v) w := by kernel_rfl

set_option maxHeartbeats 1000000 in
theorem is_same (a : Addr) (w : World) :
    Calls Tryz.prog 78 #[.iface 179 (.pointer (some a)), .iface 179 (.pointer (some a))] w fun e w' => e = .returned (.bool true) ∧ w = w' := by
  obtain ⟨i, hi, hcmp⟩ := Option.map_eq_some_iff.1 compES
  obtain ⟨j, hj, hjs⟩ := Option.map_eq_some_iff.1 sizeES
  have h8 := @run_callFunc_extern Tryz.prog 88 _ Extern.ReflectliteType.typeOf Tryz.func88 (by kernel_rfl) (by kernel_rfl) (by kernel_rfl) (by kernel_rfl)
  have h32 := @run_callFunc_extern Tryz.prog 134 _ (Extern.ReflectliteType.method fun t => do Extern.Rtype.noPackHeld "Comparable" t; pure (.bool (← typeInfo t).comparable)) Tryz.func134 (by kernel_rfl) (by kernel_rfl) (by kernel_rfl) (by kernel_rfl)
  have tT := isTypeOf
  have cT := isComparable
  have mR := isMethodComparable
  have heq := run_eql_iface_ptr_same (P := Tryz.prog) w a Tryz.underlying31 Tryz.underlying179 hi hcmp hj
  go_enter Tryz.func78, Tryz.ntmps78
  go_wp2
  refine wp_loop_rounds 1 ?_
  rw [rounds_succ]
  go_wp2
  go_ret
  exact ⟨rfl, rfl⟩

set_option maxHeartbeats 1000000 in
theorem is_nil (b : Addr) (w : World) :
    Calls Tryz.prog 78 #[.nilIface, .iface 179 (.pointer (some b))] w fun e w' => e = .returned (.bool false) ∧ w = w' := by
  have hn := run_eql_iface_nil_left (P := Tryz.prog) w 179 (.pointer (some b)) Tryz.underlying31
  go_enter Tryz.func78, Tryz.ntmps78
  go_wp2
  go_ret
  exact ⟨rfl, rfl⟩

set_option maxHeartbeats 2000000 in
theorem is_at (pb : Nat) (b a : Addr) (ca cb : Array Value) (ta tb : TypeId) (w : World) (h1 : w.cell? ⟨pb, 1, none⟩ = some (.iface 179 (.pointer (some a)))) (hne : a ≠ b) (ha : w.heap[a.block]? = some (.cells ca ta (0, 0))) (hb : w.heap[b.block]? = some (.cells cb tb (0, 0))) :
    Calls Tryz.prog 78 #[.iface 95 (.pointer (some ⟨pb, 0, none⟩)), .iface 179 (.pointer (some b))] w fun e w' => e = .returned (.bool false) ∧ w = w' := by
  obtain ⟨i, hi, hcmp⟩ := Option.map_eq_some_iff.1 compES
  obtain ⟨j, hj, hjs⟩ := Option.map_eq_some_iff.1 sizeES
  have h8 := @run_callFunc_extern Tryz.prog 88 _ Extern.ReflectliteType.typeOf Tryz.func88 (by kernel_rfl) (by kernel_rfl) (by kernel_rfl) (by kernel_rfl)
  have h32 := @run_callFunc_extern Tryz.prog 134 _ (Extern.ReflectliteType.method fun t => do Extern.Rtype.noPackHeld "Comparable" t; pure (.bool (← typeInfo t).comparable)) Tryz.func134 (by kernel_rfl) (by kernel_rfl) (by kernel_rfl) (by kernel_rfl)
  have tT := isTypeOf
  have cT := isComparable
  have mR := isMethodComparable
  have nE := noIsE
  have uE := noUnwrapE
  have vE := noUnwrapsE
  have nW := noIsW
  have uW := hasUnwrapW
  have mU := methodUnwrap
  have heq := run_eql_iface_ptr_other (P := Tryz.prog) w Tryz.underlying31 Tryz.underlying179 hi hcmp hj (by rw [hjs]; decide) hne ha hb
  have hty := run_eql_iface_types (P := Tryz.prog) 95 179 (.pointer (some ⟨pb, 0, none⟩)) (.pointer (some b)) Tryz.underlying31 (by decide) w
  go_enter Tryz.func78, Tryz.ntmps78
  go_wp2
  refine wp_loop_rounds 2 ?_
  rw [rounds_succ]
  go_wp2
  rw [rounds_succ]
  go_wp2
  go_ret
  exact ⟨rfl, rfl⟩
end Go.Proofs.YtfoohdknjacenaaGreatDoor
