/-
  NARROWER THAN 'FOR EVERY INPUT', by the rows' own cells (each row's printed sentence says how): TseitinSays: laid · TseitinOnly: laid · TseitinForces: laid · TseitinSizes: laid.
  DERIVED. THE GIVEN ROWS OF THIS SEAT. 4 by the template 'for every input the law returns true; each argument reads behind the call as it read before'; 0 by the template 'total and deterministic' (their statements: YtmgepagdkfghlaaDoorTotals.lean).
  GIVEN WITH THE SEED: the statements are not yours to turn. If you find one false, say at which input.
  Laid BY PROGRAM, IN A SANDBOX (cutbox-rows.mjs): the forced cells as the released guide's own fill.sh prints them over the translation e3d2889d757509fb… (all of the seat's roots in one cut). By AI agents, Wed Nov 11 2026. No macro, syntax, notation, axiom, sorry.
-/
import Derived.Test.YtmgepagdkfghlaaDoorChecked
import GoSem.Claim
import GoSem.ClaimJoined
import GoSem.ClaimMapViews
import Derived.JoinedTies
import Derived.KernelRfl
namespace Go.Proofs.YtmgepagdkfghlaaDoor
/- THE CELL 'sum', in the pinned program and in every row, IS THE sha256 OF THE DUMP (.gsa) THAT YtmgepagdkfghlaaDoorProg.lean LOADS. Nothing in Lean hashes anything: it is a label: what it is worth is what the hold of that sum in a sandbox is worth. -/
noncomputable def Tryd.pinned : Pinned := { name := "ytmgepagdkfghlaadoor", sum := "e3d2889d757509fb5b46b6a6b5e984dfd595433d367a946e8fc55b5e59ae36da", checked := Tryd.checked }
namespace Rows
def none {H : Type} : Left H := { results := [], args := [] }

/- WHAT THE LISTED PACKAGE-LEVEL VARIABLES READ AS WHEN THE CALL BEGINS. Each datum BY PROGRAM (the guide's laid-datum.mjs) off the statement by which the dump's own 'gosem.cut.vars' lays the variable. In a bare row this is a premise. The card (YtmgepagdkfghlaaDoorCards.lean) ties it to the program's text. -/
def laid_skolem_api_ErrText {H : Type} : DataW H := .iface "*errors.errorString" (.ptr (.agg [.lit (.string [110, 111, 116, 32, 97, 115, 32, 105, 116, 32, 105, 115, 32, 119, 114, 105, 116, 116, 101, 110])]))
def laid_skolem_api_ErrLimit {H : Type} : DataW H := .iface "*errors.errorString" (.ptr (.agg [.lit (.string [109, 111, 114, 101, 32, 116, 104, 97, 110, 32, 109, 97, 121, 32, 98, 101])]))
def laid_skolem_api_ErrBudget {H : Type} : DataW H := .iface "*errors.errorString" (.ptr (.agg [.lit (.string [116, 104, 101, 32, 98, 117, 100, 103, 101, 116, 32, 105, 115, 32, 117, 115, 101, 100, 32, 117, 112])]))
def laid_skolem_api_ErrRange {H : Type} : DataW H := .iface "*errors.errorString" (.ptr (.agg [.lit (.string [97, 32, 110, 117, 109, 98, 101, 114, 32, 111, 117, 116, 32, 111, 102, 32, 105, 116, 115, 32, 114, 97, 110, 103, 101])]))
def laid_skolem_api_ErrBlocks {H : Type} : DataW H := .iface "*errors.errorString" (.ptr (.agg [.lit (.string [109, 111, 114, 101, 32, 116, 104, 97, 110, 32, 116, 119, 111, 32, 98, 108, 111, 99, 107, 115])]))
def laid_skolem_api_ErrProof {H : Type} : DataW H := .iface "*errors.errorString" (.ptr (.agg [.lit (.string [97, 32, 115, 116, 101, 112, 32, 116, 104, 97, 116, 32, 100, 111, 101, 115, 32, 110, 111, 116, 32, 102, 111, 108, 108, 111, 119])]))
def laid_skolem_api_ErrCert {H : Type} : DataW H := .iface "*errors.errorString" (.ptr (.agg [.lit (.string [110, 111, 32, 99, 101, 114, 116, 105, 102, 105, 99, 97, 116, 101, 32, 111, 102, 32, 105, 116])]))

/-- 'skolemlaw13.TseitinSays': WHATEVER THE INPUT: true; the input reads as it did. -/
def tseitinSaysSpec : ChangeSpec := { name := "tseitinSays", fn := fun _ => fun
  | [d1, d2, d3, d4, d5] => { results := [.lit (.bool true)], args := [d1, d2, d3, d4, d5] }
  | _ => none }
def tseitinSaysRow : OpenClaim := { program := "ytmgepagdkfghlaadoor", sum := "e3d2889d757509fb5b46b6a6b5e984dfd595433d367a946e8fc55b5e59ae36da", func := "skolem/skolemlaw13.TseitinSays", spec := "tseitinSays", named := ["skolem/api.ErrRange", "skolem/api.ErrLimit", "skolem/api.ErrText", "skolem/api.ErrBudget", "skolem/api.ErrBlocks", "skolem/api.ErrProof", "skolem/api.ErrCert"], apart := false, laid := [("skolem/api.ErrText", laid_skolem_api_ErrText), ("skolem/api.ErrLimit", laid_skolem_api_ErrLimit), ("skolem/api.ErrBudget", laid_skolem_api_ErrBudget), ("skolem/api.ErrRange", laid_skolem_api_ErrRange), ("skolem/api.ErrBlocks", laid_skolem_api_ErrBlocks), ("skolem/api.ErrProof", laid_skolem_api_ErrProof), ("skolem/api.ErrCert", laid_skolem_api_ErrCert)] }
def TseitinSaysSaid : Prop := tseitinSaysRow.holds Tryd.pinned (OpenSpec.ofChange tseitinSaysSpec)

/-- ITS FALSE NEIGHBOUR: 'it returns false'. Refute it at one input. -/
def tseitinSaysWrong : ChangeSpec := { name := "tseitinSays", fn := fun _ => fun
  | [d1, d2, d3, d4, d5] => { results := [.lit (.bool false)], args := [d1, d2, d3, d4, d5] }
  | _ => none }
def TseitinSaysWrongFalsely : Prop := tseitinSaysRow.holds Tryd.pinned (OpenSpec.ofChange tseitinSaysWrong)

/-- 'skolemlaw13.TseitinOnly': WHATEVER THE INPUT: true; the input reads as it did. -/
def tseitinOnlySpec : ChangeSpec := { name := "tseitinOnly", fn := fun _ => fun
  | [d1, d2, d3, d4] => { results := [.lit (.bool true)], args := [d1, d2, d3, d4] }
  | _ => none }
def tseitinOnlyRow : OpenClaim := { program := "ytmgepagdkfghlaadoor", sum := "e3d2889d757509fb5b46b6a6b5e984dfd595433d367a946e8fc55b5e59ae36da", func := "skolem/skolemlaw13.TseitinOnly", spec := "tseitinOnly", named := ["skolem/api.ErrRange", "skolem/api.ErrLimit"], apart := false, laid := [("skolem/api.ErrLimit", laid_skolem_api_ErrLimit), ("skolem/api.ErrRange", laid_skolem_api_ErrRange)] }
def TseitinOnlySaid : Prop := tseitinOnlyRow.holds Tryd.pinned (OpenSpec.ofChange tseitinOnlySpec)

/-- ITS FALSE NEIGHBOUR: 'it returns false'. Refute it at one input. -/
def tseitinOnlyWrong : ChangeSpec := { name := "tseitinOnly", fn := fun _ => fun
  | [d1, d2, d3, d4] => { results := [.lit (.bool false)], args := [d1, d2, d3, d4] }
  | _ => none }
def TseitinOnlyWrongFalsely : Prop := tseitinOnlyRow.holds Tryd.pinned (OpenSpec.ofChange tseitinOnlyWrong)

/-- 'skolemlaw13.TseitinForces': WHATEVER THE INPUT: true; the input reads as it did. -/
def tseitinForcesSpec : ChangeSpec := { name := "tseitinForces", fn := fun _ => fun
  | [d1, d2, d3] => { results := [.lit (.bool true)], args := [d1, d2, d3] }
  | _ => none }
def tseitinForcesRow : OpenClaim := { program := "ytmgepagdkfghlaadoor", sum := "e3d2889d757509fb5b46b6a6b5e984dfd595433d367a946e8fc55b5e59ae36da", func := "skolem/skolemlaw13.TseitinForces", spec := "tseitinForces", named := ["skolem/api.ErrRange", "skolem/api.ErrLimit"], apart := false, laid := [("skolem/api.ErrLimit", laid_skolem_api_ErrLimit), ("skolem/api.ErrRange", laid_skolem_api_ErrRange)] }
def TseitinForcesSaid : Prop := tseitinForcesRow.holds Tryd.pinned (OpenSpec.ofChange tseitinForcesSpec)

/-- ITS FALSE NEIGHBOUR: 'it returns false'. Refute it at one input. -/
def tseitinForcesWrong : ChangeSpec := { name := "tseitinForces", fn := fun _ => fun
  | [d1, d2, d3] => { results := [.lit (.bool false)], args := [d1, d2, d3] }
  | _ => none }
def TseitinForcesWrongFalsely : Prop := tseitinForcesRow.holds Tryd.pinned (OpenSpec.ofChange tseitinForcesWrong)

/-- 'skolemlaw13.TseitinSizes': WHATEVER THE INPUT: true; the input reads as it did. -/
def tseitinSizesSpec : ChangeSpec := { name := "tseitinSizes", fn := fun _ => fun
  | [d1, d2, d3] => { results := [.lit (.bool true)], args := [d1, d2, d3] }
  | _ => none }
def tseitinSizesRow : OpenClaim := { program := "ytmgepagdkfghlaadoor", sum := "e3d2889d757509fb5b46b6a6b5e984dfd595433d367a946e8fc55b5e59ae36da", func := "skolem/skolemlaw13.TseitinSizes", spec := "tseitinSizes", named := ["skolem/api.ErrRange", "skolem/api.ErrLimit"], apart := false, laid := [("skolem/api.ErrLimit", laid_skolem_api_ErrLimit), ("skolem/api.ErrRange", laid_skolem_api_ErrRange)] }
def TseitinSizesSaid : Prop := tseitinSizesRow.holds Tryd.pinned (OpenSpec.ofChange tseitinSizesSpec)

/-- ITS FALSE NEIGHBOUR: 'it returns false'. Refute it at one input. -/
def tseitinSizesWrong : ChangeSpec := { name := "tseitinSizes", fn := fun _ => fun
  | [d1, d2, d3] => { results := [.lit (.bool false)], args := [d1, d2, d3] }
  | _ => none }
def TseitinSizesWrongFalsely : Prop := tseitinSizesRow.holds Tryd.pinned (OpenSpec.ofChange tseitinSizesWrong)

/- THE SECOND FORM. 'bulk': how many values and letters a reading holds, each counted each time it is reached (what is shared counts as often as it is met; a slice's spare places count too). A statement '..UptoSaid' is the law's where the arguments, and the package variables that the reading takes, are together of bulk at most 1048576: NARROWER than '..Said'. Prove '..Said' where nothing that the law and all that it calls make is longer than what came in: it says more and counts as full. Else prove '..UptoSaid'. A law counts once. -/
mutual
def uptoBulk {H : Type} : DataW H → Nat
  | .lit (.string bytes) => bytes.length + 1
  | .lit _ => 1
  | .nil => 1
  | .ptr d => uptoBulk d + 1
  | .slice elems spare => uptoBulkAll elems + uptoBulkAll spare + 1
  | .agg parts => uptoBulkAll parts + 1
  | .iface _ d => uptoBulk d + 1
  | .map entries => uptoBulkEntries entries + 1
  | .held _ => 1
def uptoBulkAll {H : Type} : List (DataW H) → Nat
  | [] => 0
  | d :: r => uptoBulk d + uptoBulkAll r
def uptoBulkEntries {H : Type} : List (Lit × DataW H) → Nat
  | [] => 0
  | x :: r => uptoBulkEntry x + uptoBulkEntries r
def uptoBulkEntry {H : Type} : Lit × DataW H → Nat
  | (.string bytes, d) => bytes.length + uptoBulk d + 1
  | (_, d) => uptoBulk d + 1
 end
def uptoSmall : (H : Type) → List (DataW H) → Bool := fun _ ds => decide (uptoBulkAll ds ≤ 1048576)
def OpenSpec.upto (s : _root_.Go.ChangeSpec) : _root_.Go.OpenSpec := { _root_.Go.OpenSpec.ofChange s with cond := some uptoSmall }

/-- 'skolemlaw13.TseitinSays', WHERE WHAT IT READS IS OF BULK AT MOST 1048576: true; the input reads as it did. -/
def tseitinSaysUptoRow : OpenClaim := { program := "ytmgepagdkfghlaadoor", sum := "e3d2889d757509fb5b46b6a6b5e984dfd595433d367a946e8fc55b5e59ae36da", func := "skolem/skolemlaw13.TseitinSays", spec := "tseitinSays", named := ["skolem/api.ErrRange", "skolem/api.ErrLimit", "skolem/api.ErrText", "skolem/api.ErrBudget", "skolem/api.ErrBlocks", "skolem/api.ErrProof", "skolem/api.ErrCert"], apart := false, laid := [("skolem/api.ErrText", laid_skolem_api_ErrText), ("skolem/api.ErrLimit", laid_skolem_api_ErrLimit), ("skolem/api.ErrBudget", laid_skolem_api_ErrBudget), ("skolem/api.ErrRange", laid_skolem_api_ErrRange), ("skolem/api.ErrBlocks", laid_skolem_api_ErrBlocks), ("skolem/api.ErrProof", laid_skolem_api_ErrProof), ("skolem/api.ErrCert", laid_skolem_api_ErrCert)], narrowed := true }
def TseitinSaysUptoSaid : Prop := tseitinSaysUptoRow.holds Tryd.pinned (OpenSpec.upto tseitinSaysSpec)

/-- 'skolemlaw13.TseitinOnly', WHERE WHAT IT READS IS OF BULK AT MOST 1048576: true; the input reads as it did. -/
def tseitinOnlyUptoRow : OpenClaim := { program := "ytmgepagdkfghlaadoor", sum := "e3d2889d757509fb5b46b6a6b5e984dfd595433d367a946e8fc55b5e59ae36da", func := "skolem/skolemlaw13.TseitinOnly", spec := "tseitinOnly", named := ["skolem/api.ErrRange", "skolem/api.ErrLimit"], apart := false, laid := [("skolem/api.ErrLimit", laid_skolem_api_ErrLimit), ("skolem/api.ErrRange", laid_skolem_api_ErrRange)], narrowed := true }
def TseitinOnlyUptoSaid : Prop := tseitinOnlyUptoRow.holds Tryd.pinned (OpenSpec.upto tseitinOnlySpec)

/-- 'skolemlaw13.TseitinForces', WHERE WHAT IT READS IS OF BULK AT MOST 1048576: true; the input reads as it did. -/
def tseitinForcesUptoRow : OpenClaim := { program := "ytmgepagdkfghlaadoor", sum := "e3d2889d757509fb5b46b6a6b5e984dfd595433d367a946e8fc55b5e59ae36da", func := "skolem/skolemlaw13.TseitinForces", spec := "tseitinForces", named := ["skolem/api.ErrRange", "skolem/api.ErrLimit"], apart := false, laid := [("skolem/api.ErrLimit", laid_skolem_api_ErrLimit), ("skolem/api.ErrRange", laid_skolem_api_ErrRange)], narrowed := true }
def TseitinForcesUptoSaid : Prop := tseitinForcesUptoRow.holds Tryd.pinned (OpenSpec.upto tseitinForcesSpec)

/-- 'skolemlaw13.TseitinSizes', WHERE WHAT IT READS IS OF BULK AT MOST 1048576: true; the input reads as it did. -/
def tseitinSizesUptoRow : OpenClaim := { program := "ytmgepagdkfghlaadoor", sum := "e3d2889d757509fb5b46b6a6b5e984dfd595433d367a946e8fc55b5e59ae36da", func := "skolem/skolemlaw13.TseitinSizes", spec := "tseitinSizes", named := ["skolem/api.ErrRange", "skolem/api.ErrLimit"], apart := false, laid := [("skolem/api.ErrLimit", laid_skolem_api_ErrLimit), ("skolem/api.ErrRange", laid_skolem_api_ErrRange)], narrowed := true }
def TseitinSizesUptoSaid : Prop := tseitinSizesUptoRow.holds Tryd.pinned (OpenSpec.upto tseitinSizesSpec)

end Rows
end Go.Proofs.YtmgepagdkfghlaaDoor
