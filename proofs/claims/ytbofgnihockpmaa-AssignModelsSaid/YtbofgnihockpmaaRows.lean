/-
  No cell of these rows narrows 'for every input' (looked for: loops, veiled, ifaces, maps, wideKeys, modest, calm, conditions, laid).
  DERIVED. THE GIVEN ROWS OF THIS SEAT. 4 by the template 'for every input the law returns true; each argument reads behind the call as it read before'; 0 by the template 'total and deterministic' (their statements: YtbofgnihockpmaaTotals.lean).
  GIVEN WITH THE SEED: the statements are not yours to turn. If you find one false, say at which input.
  Laid BY PROGRAM, IN A SANDBOX (cutbox-rows.mjs): the forced cells as the released guide's own fill.sh prints them over the translation 9c2c663716678bd4… (all of the seat's roots in one cut). By AI agents, Wed Nov 11 2026. No macro, syntax, notation, axiom, sorry.
-/
import Derived.Test.YtbofgnihockpmaaChecked
import GoSem.Claim
import GoSem.ClaimJoined
import GoSem.ClaimMapViews
import Derived.JoinedTies
import Derived.KernelRfl
namespace Go.Proofs.Ytbofgnihockpmaa
/- THE CELL 'sum', in the pinned program and in every row, IS THE sha256 OF THE DUMP (.gsa) THAT YtbofgnihockpmaaProg.lean LOADS. Nothing in Lean hashes anything: it is a label: what it is worth is what the hold of that sum in a sandbox is worth. -/
noncomputable def Try.pinned : Pinned := { name := "ytbofgnihockpmaa", sum := "9c2c663716678bd4bcdad3efa0ddaa570d3f58fa7971c833c3075135219c4062", checked := Try.checked }
namespace Rows
def none {H : Type} : Left H := { results := [], args := [] }

/-- 'skolemlaw2.AssignPlays': WHATEVER THE INPUT: true; the input reads as it did. -/
def assignPlaysSpec : ChangeSpec := { name := "assignPlays", fn := fun _ => fun
  | [d1, d2, d3, d4] => { results := [.lit (.bool true)], args := [d1, d2, d3, d4] }
  | _ => none }
def assignPlaysRow : OpenClaim := { program := "ytbofgnihockpmaa", sum := "9c2c663716678bd4bcdad3efa0ddaa570d3f58fa7971c833c3075135219c4062", func := "skolem/skolemlaw2.AssignPlays", spec := "assignPlays", apart := false }
def AssignPlaysSaid : Prop := assignPlaysRow.holds Try.pinned (OpenSpec.ofChange assignPlaysSpec)

/-- ITS FALSE NEIGHBOUR: 'it returns false'. Refute it at one input. -/
def assignPlaysWrong : ChangeSpec := { name := "assignPlays", fn := fun _ => fun
  | [d1, d2, d3, d4] => { results := [.lit (.bool false)], args := [d1, d2, d3, d4] }
  | _ => none }
def AssignPlaysWrongFalsely : Prop := assignPlaysRow.holds Try.pinned (OpenSpec.ofChange assignPlaysWrong)

/-- 'skolemlaw2.AssignModels': WHATEVER THE INPUT: true; the input reads as it did. -/
def assignModelsSpec : ChangeSpec := { name := "assignModels", fn := fun _ => fun
  | [d1, d2, d3] => { results := [.lit (.bool true)], args := [d1, d2, d3] }
  | _ => none }
def assignModelsRow : OpenClaim := { program := "ytbofgnihockpmaa", sum := "9c2c663716678bd4bcdad3efa0ddaa570d3f58fa7971c833c3075135219c4062", func := "skolem/skolemlaw2.AssignModels", spec := "assignModels", apart := false }
def AssignModelsSaid : Prop := assignModelsRow.holds Try.pinned (OpenSpec.ofChange assignModelsSpec)

/-- ITS FALSE NEIGHBOUR: 'it returns false'. Refute it at one input. -/
def assignModelsWrong : ChangeSpec := { name := "assignModels", fn := fun _ => fun
  | [d1, d2, d3] => { results := [.lit (.bool false)], args := [d1, d2, d3] }
  | _ => none }
def AssignModelsWrongFalsely : Prop := assignModelsRow.holds Try.pinned (OpenSpec.ofChange assignModelsWrong)

/-- 'skolemlaw2.AssignUnits': WHATEVER THE INPUT: true; the input reads as it did. -/
def assignUnitsSpec : ChangeSpec := { name := "assignUnits", fn := fun _ => fun
  | [d1, d2] => { results := [.lit (.bool true)], args := [d1, d2] }
  | _ => none }
def assignUnitsRow : OpenClaim := { program := "ytbofgnihockpmaa", sum := "9c2c663716678bd4bcdad3efa0ddaa570d3f58fa7971c833c3075135219c4062", func := "skolem/skolemlaw2.AssignUnits", spec := "assignUnits", apart := false }
def AssignUnitsSaid : Prop := assignUnitsRow.holds Try.pinned (OpenSpec.ofChange assignUnitsSpec)

/-- ITS FALSE NEIGHBOUR: 'it returns false'. Refute it at one input. -/
def assignUnitsWrong : ChangeSpec := { name := "assignUnits", fn := fun _ => fun
  | [d1, d2] => { results := [.lit (.bool false)], args := [d1, d2] }
  | _ => none }
def AssignUnitsWrongFalsely : Prop := assignUnitsRow.holds Try.pinned (OpenSpec.ofChange assignUnitsWrong)

/-- 'skolemlaw2.AssignOwn': WHATEVER THE INPUT: true; the input reads as it did. -/
def assignOwnSpec : ChangeSpec := { name := "assignOwn", fn := fun _ => fun
  | [d1, d2] => { results := [.lit (.bool true)], args := [d1, d2] }
  | _ => none }
def assignOwnRow : OpenClaim := { program := "ytbofgnihockpmaa", sum := "9c2c663716678bd4bcdad3efa0ddaa570d3f58fa7971c833c3075135219c4062", func := "skolem/skolemlaw2.AssignOwn", spec := "assignOwn", apart := false }
def AssignOwnSaid : Prop := assignOwnRow.holds Try.pinned (OpenSpec.ofChange assignOwnSpec)

/-- ITS FALSE NEIGHBOUR: 'it returns false'. Refute it at one input. -/
def assignOwnWrong : ChangeSpec := { name := "assignOwn", fn := fun _ => fun
  | [d1, d2] => { results := [.lit (.bool false)], args := [d1, d2] }
  | _ => none }
def AssignOwnWrongFalsely : Prop := assignOwnRow.holds Try.pinned (OpenSpec.ofChange assignOwnWrong)

/- THE SECOND FORM. 'bulk': how many values and letters a reading holds, each counted each time it is reached (what is shared counts as often as it is met; a slice's spare places count too). A statement '..UptoSaid' is the law's where the arguments, and the package variables that the reading takes, are together of bulk at most 1048576: NARROWER than '..Said'. Prove '..Said' where nothing that the law and all that it calls make is longer than what came in: it says more and counts as full. Else prove '..UptoSaid'. A law counts once. -/
mutual
def uptoBulk {H : Type} : DataW H → Nat
  | .lit (.string bytes) => bytes.length + 1
  | .lit _ => 1
  | .nil => 1
  | .ptr d => uptoBulk d + 1
  | .slice elems spare => uptoBulkAll elems + uptoBulkAll spare + 1
  | .agg parts => uptoBulkAll parts + 1
  | .iface _ d => uptoBulk d + 1
  | .map entries => uptoBulkEntries entries + 1
  | .held _ => 1
def uptoBulkAll {H : Type} : List (DataW H) → Nat
  | [] => 0
  | d :: r => uptoBulk d + uptoBulkAll r
def uptoBulkEntries {H : Type} : List (Lit × DataW H) → Nat
  | [] => 0
  | x :: r => uptoBulkEntry x + uptoBulkEntries r
def uptoBulkEntry {H : Type} : Lit × DataW H → Nat
  | (.string bytes, d) => bytes.length + uptoBulk d + 1
  | (_, d) => uptoBulk d + 1
 end
def uptoSmall : (H : Type) → List (DataW H) → Bool := fun _ ds => decide (uptoBulkAll ds ≤ 1048576)
def OpenSpec.upto (s : _root_.Go.ChangeSpec) : _root_.Go.OpenSpec := { _root_.Go.OpenSpec.ofChange s with cond := some uptoSmall }

/-- 'skolemlaw2.AssignPlays', WHERE WHAT IT READS IS OF BULK AT MOST 1048576: true; the input reads as it did. -/
def assignPlaysUptoRow : OpenClaim := { program := "ytbofgnihockpmaa", sum := "9c2c663716678bd4bcdad3efa0ddaa570d3f58fa7971c833c3075135219c4062", func := "skolem/skolemlaw2.AssignPlays", spec := "assignPlays", apart := false, narrowed := true }
def AssignPlaysUptoSaid : Prop := assignPlaysUptoRow.holds Try.pinned (OpenSpec.upto assignPlaysSpec)

/-- 'skolemlaw2.AssignModels', WHERE WHAT IT READS IS OF BULK AT MOST 1048576: true; the input reads as it did. -/
def assignModelsUptoRow : OpenClaim := { program := "ytbofgnihockpmaa", sum := "9c2c663716678bd4bcdad3efa0ddaa570d3f58fa7971c833c3075135219c4062", func := "skolem/skolemlaw2.AssignModels", spec := "assignModels", apart := false, narrowed := true }
def AssignModelsUptoSaid : Prop := assignModelsUptoRow.holds Try.pinned (OpenSpec.upto assignModelsSpec)

/-- 'skolemlaw2.AssignUnits', WHERE WHAT IT READS IS OF BULK AT MOST 1048576: true; the input reads as it did. -/
def assignUnitsUptoRow : OpenClaim := { program := "ytbofgnihockpmaa", sum := "9c2c663716678bd4bcdad3efa0ddaa570d3f58fa7971c833c3075135219c4062", func := "skolem/skolemlaw2.AssignUnits", spec := "assignUnits", apart := false, narrowed := true }
def AssignUnitsUptoSaid : Prop := assignUnitsUptoRow.holds Try.pinned (OpenSpec.upto assignUnitsSpec)

/-- 'skolemlaw2.AssignOwn', WHERE WHAT IT READS IS OF BULK AT MOST 1048576: true; the input reads as it did. -/
def assignOwnUptoRow : OpenClaim := { program := "ytbofgnihockpmaa", sum := "9c2c663716678bd4bcdad3efa0ddaa570d3f58fa7971c833c3075135219c4062", func := "skolem/skolemlaw2.AssignOwn", spec := "assignOwn", apart := false, narrowed := true }
def AssignOwnUptoSaid : Prop := assignOwnUptoRow.holds Try.pinned (OpenSpec.upto assignOwnSpec)

end Rows
end Go.Proofs.Ytbofgnihockpmaa
