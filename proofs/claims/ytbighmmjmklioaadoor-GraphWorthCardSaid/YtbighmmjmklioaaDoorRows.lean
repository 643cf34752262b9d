/-
  NARROWER THAN 'FOR EVERY INPUT', by the rows' own cells (each row's printed sentence says how): GateSays: laid · GateWorth: laid · GateClauses: laid · GateLaws: laid · GraphBuilds: laid · GraphWorth: laid.
  DERIVED. THE GIVEN ROWS OF THIS SEAT. 6 by the template 'for every input the law returns true; each argument reads behind the call as it read before'; 0 by the template 'total and deterministic' (their statements: YtbighmmjmklioaaDoorTotals.lean).
  GIVEN WITH THE SEED: the statements are not yours to turn. If you find one false, say at which input.
  Laid BY PROGRAM, IN A SANDBOX (cutbox-rows.mjs): the forced cells as the released guide's own fill.sh prints them over the translation 8da31e1a046dabd4… (all of the seat's roots in one cut). By AI agents, Wed Nov 11 2026. No macro, syntax, notation, axiom, sorry.
-/
import Derived.Test.YtbighmmjmklioaaDoorChecked
import GoSem.Claim
import GoSem.ClaimJoined
import GoSem.ClaimMapViews
import Derived.JoinedTies
import Derived.KernelRfl
namespace Go.Proofs.YtbighmmjmklioaaDoor
/- THE CELL 'sum', in the pinned program and in every row, IS THE sha256 OF THE DUMP (.gsa) THAT YtbighmmjmklioaaDoorProg.lean LOADS. Nothing in Lean hashes anything: it is a label: what it is worth is what the hold of that sum in a sandbox is worth. -/
noncomputable def Tryd.pinned : Pinned := { name := "ytbighmmjmklioaadoor", sum := "8da31e1a046dabd4f9a19d1b4ebbc10f6c238e0e7a3913e596f991545bf67d7e", checked := Tryd.checked }
namespace Rows
def none {H : Type} : Left H := { results := [], args := [] }

/- WHAT THE LISTED PACKAGE-LEVEL VARIABLES READ AS WHEN THE CALL BEGINS. Each datum BY PROGRAM (the guide's laid-datum.mjs) off the statement by which the dump's own 'gosem.cut.vars' lays the variable. In a bare row this is a premise. The card (YtbighmmjmklioaaDoorCards.lean) ties it to the program's text. -/
def laid_skolem_api_ErrLimit {H : Type} : DataW H := .iface "*errors.errorString" (.ptr (.agg [.lit (.string [109, 111, 114, 101, 32, 116, 104, 97, 110, 32, 109, 97, 121, 32, 98, 101])]))
def laid_skolem_api_ErrRange {H : Type} : DataW H := .iface "*errors.errorString" (.ptr (.agg [.lit (.string [97, 32, 110, 117, 109, 98, 101, 114, 32, 111, 117, 116, 32, 111, 102, 32, 105, 116, 115, 32, 114, 97, 110, 103, 101])]))
def laid_skolem_api_ErrText {H : Type} : DataW H := .iface "*errors.errorString" (.ptr (.agg [.lit (.string [110, 111, 116, 32, 97, 115, 32, 105, 116, 32, 105, 115, 32, 119, 114, 105, 116, 116, 101, 110])]))
def laid_skolem_api_ErrBudget {H : Type} : DataW H := .iface "*errors.errorString" (.ptr (.agg [.lit (.string [116, 104, 101, 32, 98, 117, 100, 103, 101, 116, 32, 105, 115, 32, 117, 115, 101, 100, 32, 117, 112])]))
def laid_skolem_api_ErrBlocks {H : Type} : DataW H := .iface "*errors.errorString" (.ptr (.agg [.lit (.string [109, 111, 114, 101, 32, 116, 104, 97, 110, 32, 116, 119, 111, 32, 98, 108, 111, 99, 107, 115])]))
def laid_skolem_api_ErrProof {H : Type} : DataW H := .iface "*errors.errorString" (.ptr (.agg [.lit (.string [97, 32, 115, 116, 101, 112, 32, 116, 104, 97, 116, 32, 100, 111, 101, 115, 32, 110, 111, 116, 32, 102, 111, 108, 108, 111, 119])]))
def laid_skolem_api_ErrCert {H : Type} : DataW H := .iface "*errors.errorString" (.ptr (.agg [.lit (.string [110, 111, 32, 99, 101, 114, 116, 105, 102, 105, 99, 97, 116, 101, 32, 111, 102, 32, 105, 116])]))

/-- 'skolemlaw9.GateSays': WHATEVER THE INPUT: true; the input reads as it did. -/
def gateSaysSpec : ChangeSpec := { name := "gateSays", fn := fun _ => fun
  | [d1, d2, d3, d4, d5, d6, d7] => { results := [.lit (.bool true)], args := [d1, d2, d3, d4, d5, d6, d7] }
  | _ => none }
def gateSaysRow : OpenClaim := { program := "ytbighmmjmklioaadoor", sum := "8da31e1a046dabd4f9a19d1b4ebbc10f6c238e0e7a3913e596f991545bf67d7e", func := "skolem/skolemlaw9.GateSays", spec := "gateSays", named := ["skolem/api.ErrRange", "skolem/api.ErrLimit"], plainKeys := false, apart := false, laid := [("skolem/api.ErrLimit", laid_skolem_api_ErrLimit), ("skolem/api.ErrRange", laid_skolem_api_ErrRange)] }
def GateSaysSaid : Prop := gateSaysRow.holds Tryd.pinned (OpenSpec.ofChange gateSaysSpec)

/-- ITS FALSE NEIGHBOUR: 'it returns false'. Refute it at one input. -/
def gateSaysWrong : ChangeSpec := { name := "gateSays", fn := fun _ => fun
  | [d1, d2, d3, d4, d5, d6, d7] => { results := [.lit (.bool false)], args := [d1, d2, d3, d4, d5, d6, d7] }
  | _ => none }
def GateSaysWrongFalsely : Prop := gateSaysRow.holds Tryd.pinned (OpenSpec.ofChange gateSaysWrong)

/-- 'skolemlaw9.GateWorth': WHATEVER THE INPUT: true; the input reads as it did. -/
def gateWorthSpec : ChangeSpec := { name := "gateWorth", fn := fun _ => fun
  | [d1, d2, d3, d4, d5] => { results := [.lit (.bool true)], args := [d1, d2, d3, d4, d5] }
  | _ => none }
def gateWorthRow : OpenClaim := { program := "ytbighmmjmklioaadoor", sum := "8da31e1a046dabd4f9a19d1b4ebbc10f6c238e0e7a3913e596f991545bf67d7e", func := "skolem/skolemlaw9.GateWorth", spec := "gateWorth", named := ["skolem/api.ErrRange", "skolem/api.ErrLimit"], plainKeys := false, apart := false, laid := [("skolem/api.ErrLimit", laid_skolem_api_ErrLimit), ("skolem/api.ErrRange", laid_skolem_api_ErrRange)] }
def GateWorthSaid : Prop := gateWorthRow.holds Tryd.pinned (OpenSpec.ofChange gateWorthSpec)

/-- ITS FALSE NEIGHBOUR: 'it returns false'. Refute it at one input. -/
def gateWorthWrong : ChangeSpec := { name := "gateWorth", fn := fun _ => fun
  | [d1, d2, d3, d4, d5] => { results := [.lit (.bool false)], args := [d1, d2, d3, d4, d5] }
  | _ => none }
def GateWorthWrongFalsely : Prop := gateWorthRow.holds Tryd.pinned (OpenSpec.ofChange gateWorthWrong)

/-- 'skolemlaw9.GateClauses': WHATEVER THE INPUT: true; the input reads as it did. -/
def gateClausesSpec : ChangeSpec := { name := "gateClauses", fn := fun _ => fun
  | [d1, d2] => { results := [.lit (.bool true)], args := [d1, d2] }
  | _ => none }
def gateClausesRow : OpenClaim := { program := "ytbighmmjmklioaadoor", sum := "8da31e1a046dabd4f9a19d1b4ebbc10f6c238e0e7a3913e596f991545bf67d7e", func := "skolem/skolemlaw9.GateClauses", spec := "gateClauses", named := ["skolem/api.ErrRange", "skolem/api.ErrLimit"], plainKeys := false, apart := false, laid := [("skolem/api.ErrLimit", laid_skolem_api_ErrLimit), ("skolem/api.ErrRange", laid_skolem_api_ErrRange)] }
def GateClausesSaid : Prop := gateClausesRow.holds Tryd.pinned (OpenSpec.ofChange gateClausesSpec)

/-- ITS FALSE NEIGHBOUR: 'it returns false'. Refute it at one input. -/
def gateClausesWrong : ChangeSpec := { name := "gateClauses", fn := fun _ => fun
  | [d1, d2] => { results := [.lit (.bool false)], args := [d1, d2] }
  | _ => none }
def GateClausesWrongFalsely : Prop := gateClausesRow.holds Tryd.pinned (OpenSpec.ofChange gateClausesWrong)

/-- 'skolemlaw9.GateLaws': WHATEVER THE INPUT: true; the input reads as it did. -/
def gateLawsSpec : ChangeSpec := { name := "gateLaws", fn := fun _ => fun
  | [d1, d2, d3, d4] => { results := [.lit (.bool true)], args := [d1, d2, d3, d4] }
  | _ => none }
def gateLawsRow : OpenClaim := { program := "ytbighmmjmklioaadoor", sum := "8da31e1a046dabd4f9a19d1b4ebbc10f6c238e0e7a3913e596f991545bf67d7e", func := "skolem/skolemlaw9.GateLaws", spec := "gateLaws", named := ["skolem/api.ErrRange", "skolem/api.ErrLimit"], plainKeys := false, apart := false, laid := [("skolem/api.ErrLimit", laid_skolem_api_ErrLimit), ("skolem/api.ErrRange", laid_skolem_api_ErrRange)] }
def GateLawsSaid : Prop := gateLawsRow.holds Tryd.pinned (OpenSpec.ofChange gateLawsSpec)

/-- ITS FALSE NEIGHBOUR: 'it returns false'. Refute it at one input. -/
def gateLawsWrong : ChangeSpec := { name := "gateLaws", fn := fun _ => fun
  | [d1, d2, d3, d4] => { results := [.lit (.bool false)], args := [d1, d2, d3, d4] }
  | _ => none }
def GateLawsWrongFalsely : Prop := gateLawsRow.holds Tryd.pinned (OpenSpec.ofChange gateLawsWrong)

/-- 'skolemlaw8.GraphBuilds': WHATEVER THE INPUT: true; the input reads as it did. -/
def graphBuildsSpec : ChangeSpec := { name := "graphBuilds", fn := fun _ => fun
  | [d1, d2, d3, d4] => { results := [.lit (.bool true)], args := [d1, d2, d3, d4] }
  | _ => none }
def graphBuildsRow : OpenClaim := { program := "ytbighmmjmklioaadoor", sum := "8da31e1a046dabd4f9a19d1b4ebbc10f6c238e0e7a3913e596f991545bf67d7e", func := "skolem/skolemlaw8.GraphBuilds", spec := "graphBuilds", named := ["skolem/api.ErrRange", "skolem/api.ErrLimit", "skolem/api.ErrText", "skolem/api.ErrBudget", "skolem/api.ErrBlocks", "skolem/api.ErrProof", "skolem/api.ErrCert"], plainKeys := false, apart := false, laid := [("skolem/api.ErrText", laid_skolem_api_ErrText), ("skolem/api.ErrLimit", laid_skolem_api_ErrLimit), ("skolem/api.ErrBudget", laid_skolem_api_ErrBudget), ("skolem/api.ErrRange", laid_skolem_api_ErrRange), ("skolem/api.ErrBlocks", laid_skolem_api_ErrBlocks), ("skolem/api.ErrProof", laid_skolem_api_ErrProof), ("skolem/api.ErrCert", laid_skolem_api_ErrCert)] }
def GraphBuildsSaid : Prop := graphBuildsRow.holds Tryd.pinned (OpenSpec.ofChange graphBuildsSpec)

/-- ITS FALSE NEIGHBOUR: 'it returns false'. Refute it at one input. -/
def graphBuildsWrong : ChangeSpec := { name := "graphBuilds", fn := fun _ => fun
  | [d1, d2, d3, d4] => { results := [.lit (.bool false)], args := [d1, d2, d3, d4] }
  | _ => none }
def GraphBuildsWrongFalsely : Prop := graphBuildsRow.holds Tryd.pinned (OpenSpec.ofChange graphBuildsWrong)

/-- 'skolemlaw8.GraphWorth': WHATEVER THE INPUT: true; the input reads as it did. -/
def graphWorthSpec : ChangeSpec := { name := "graphWorth", fn := fun _ => fun
  | [d1, d2, d3] => { results := [.lit (.bool true)], args := [d1, d2, d3] }
  | _ => none }
def graphWorthRow : OpenClaim := { program := "ytbighmmjmklioaadoor", sum := "8da31e1a046dabd4f9a19d1b4ebbc10f6c238e0e7a3913e596f991545bf67d7e", func := "skolem/skolemlaw8.GraphWorth", spec := "graphWorth", named := ["skolem/api.ErrRange", "skolem/api.ErrLimit"], plainKeys := false, apart := false, laid := [("skolem/api.ErrLimit", laid_skolem_api_ErrLimit), ("skolem/api.ErrRange", laid_skolem_api_ErrRange)] }
def GraphWorthSaid : Prop := graphWorthRow.holds Tryd.pinned (OpenSpec.ofChange graphWorthSpec)

/-- ITS FALSE NEIGHBOUR: 'it returns false'. Refute it at one input. -/
def graphWorthWrong : ChangeSpec := { name := "graphWorth", fn := fun _ => fun
  | [d1, d2, d3] => { results := [.lit (.bool false)], args := [d1, d2, d3] }
  | _ => none }
def GraphWorthWrongFalsely : Prop := graphWorthRow.holds Tryd.pinned (OpenSpec.ofChange graphWorthWrong)

/- THE SECOND FORM. 'bulk': how many values and letters a reading holds, each counted each time it is reached (what is shared counts as often as it is met; a slice's spare places count too). A statement '..UptoSaid' is the law's where the arguments, and the package variables that the reading takes, are together of bulk at most 1048576: NARROWER than '..Said'. Prove '..Said' where nothing that the law and all that it calls make is longer than what came in: it says more and counts as full. Else prove '..UptoSaid'. A law counts once. -/
mutual
def uptoBulk {H : Type} : DataW H → Nat
  | .lit (.string bytes) => bytes.length + 1
  | .lit _ => 1
  | .nil => 1
  | .ptr d => uptoBulk d + 1
  | .slice elems spare => uptoBulkAll elems + uptoBulkAll spare + 1
  | .agg parts => uptoBulkAll parts + 1
  | .iface _ d => uptoBulk d + 1
  | .map entries => uptoBulkEntries entries + 1
  | .held _ => 1
def uptoBulkAll {H : Type} : List (DataW H) → Nat
  | [] => 0
  | d :: r => uptoBulk d + uptoBulkAll r
def uptoBulkEntries {H : Type} : List (Lit × DataW H) → Nat
  | [] => 0
  | x :: r => uptoBulkEntry x + uptoBulkEntries r
def uptoBulkEntry {H : Type} : Lit × DataW H → Nat
  | (.string bytes, d) => bytes.length + uptoBulk d + 1
  | (_, d) => uptoBulk d + 1
 end
def uptoSmall : (H : Type) → List (DataW H) → Bool := fun _ ds => decide (uptoBulkAll ds ≤ 1048576)
def OpenSpec.upto (s : _root_.Go.ChangeSpec) : _root_.Go.OpenSpec := { _root_.Go.OpenSpec.ofChange s with cond := some uptoSmall }

/-- 'skolemlaw9.GateSays', WHERE WHAT IT READS IS OF BULK AT MOST 1048576: true; the input reads as it did. -/
def gateSaysUptoRow : OpenClaim := { program := "ytbighmmjmklioaadoor", sum := "8da31e1a046dabd4f9a19d1b4ebbc10f6c238e0e7a3913e596f991545bf67d7e", func := "skolem/skolemlaw9.GateSays", spec := "gateSays", named := ["skolem/api.ErrRange", "skolem/api.ErrLimit"], plainKeys := false, apart := false, laid := [("skolem/api.ErrLimit", laid_skolem_api_ErrLimit), ("skolem/api.ErrRange", laid_skolem_api_ErrRange)], narrowed := true }
def GateSaysUptoSaid : Prop := gateSaysUptoRow.holds Tryd.pinned (OpenSpec.upto gateSaysSpec)

/-- 'skolemlaw9.GateWorth', WHERE WHAT IT READS IS OF BULK AT MOST 1048576: true; the input reads as it did. -/
def gateWorthUptoRow : OpenClaim := { program := "ytbighmmjmklioaadoor", sum := "8da31e1a046dabd4f9a19d1b4ebbc10f6c238e0e7a3913e596f991545bf67d7e", func := "skolem/skolemlaw9.GateWorth", spec := "gateWorth", named := ["skolem/api.ErrRange", "skolem/api.ErrLimit"], plainKeys := false, apart := false, laid := [("skolem/api.ErrLimit", laid_skolem_api_ErrLimit), ("skolem/api.ErrRange", laid_skolem_api_ErrRange)], narrowed := true }
def GateWorthUptoSaid : Prop := gateWorthUptoRow.holds Tryd.pinned (OpenSpec.upto gateWorthSpec)

/-- 'skolemlaw9.GateClauses', WHERE WHAT IT READS IS OF BULK AT MOST 1048576: true; the input reads as it did. -/
def gateClausesUptoRow : OpenClaim := { program := "ytbighmmjmklioaadoor", sum := "8da31e1a046dabd4f9a19d1b4ebbc10f6c238e0e7a3913e596f991545bf67d7e", func := "skolem/skolemlaw9.GateClauses", spec := "gateClauses", named := ["skolem/api.ErrRange", "skolem/api.ErrLimit"], plainKeys := false, apart := false, laid := [("skolem/api.ErrLimit", laid_skolem_api_ErrLimit), ("skolem/api.ErrRange", laid_skolem_api_ErrRange)], narrowed := true }
def GateClausesUptoSaid : Prop := gateClausesUptoRow.holds Tryd.pinned (OpenSpec.upto gateClausesSpec)

/-- 'skolemlaw9.GateLaws', WHERE WHAT IT READS IS OF BULK AT MOST 1048576: true; the input reads as it did. -/
def gateLawsUptoRow : OpenClaim := { program := "ytbighmmjmklioaadoor", sum := "8da31e1a046dabd4f9a19d1b4ebbc10f6c238e0e7a3913e596f991545bf67d7e", func := "skolem/skolemlaw9.GateLaws", spec := "gateLaws", named := ["skolem/api.ErrRange", "skolem/api.ErrLimit"], plainKeys := false, apart := false, laid := [("skolem/api.ErrLimit", laid_skolem_api_ErrLimit), ("skolem/api.ErrRange", laid_skolem_api_ErrRange)], narrowed := true }
def GateLawsUptoSaid : Prop := gateLawsUptoRow.holds Tryd.pinned (OpenSpec.upto gateLawsSpec)

/-- 'skolemlaw8.GraphBuilds', WHERE WHAT IT READS IS OF BULK AT MOST 1048576: true; the input reads as it did. -/
def graphBuildsUptoRow : OpenClaim := { program := "ytbighmmjmklioaadoor", sum := "8da31e1a046dabd4f9a19d1b4ebbc10f6c238e0e7a3913e596f991545bf67d7e", func := "skolem/skolemlaw8.GraphBuilds", spec := "graphBuilds", named := ["skolem/api.ErrRange", "skolem/api.ErrLimit", "skolem/api.ErrText", "skolem/api.ErrBudget", "skolem/api.ErrBlocks", "skolem/api.ErrProof", "skolem/api.ErrCert"], plainKeys := false, apart := false, laid := [("skolem/api.ErrText", laid_skolem_api_ErrText), ("skolem/api.ErrLimit", laid_skolem_api_ErrLimit), ("skolem/api.ErrBudget", laid_skolem_api_ErrBudget), ("skolem/api.ErrRange", laid_skolem_api_ErrRange), ("skolem/api.ErrBlocks", laid_skolem_api_ErrBlocks), ("skolem/api.ErrProof", laid_skolem_api_ErrProof), ("skolem/api.ErrCert", laid_skolem_api_ErrCert)], narrowed := true }
def GraphBuildsUptoSaid : Prop := graphBuildsUptoRow.holds Tryd.pinned (OpenSpec.upto graphBuildsSpec)

/-- 'skolemlaw8.GraphWorth', WHERE WHAT IT READS IS OF BULK AT MOST 1048576: true; the input reads as it did. -/
def graphWorthUptoRow : OpenClaim := { program := "ytbighmmjmklioaadoor", sum := "8da31e1a046dabd4f9a19d1b4ebbc10f6c238e0e7a3913e596f991545bf67d7e", func := "skolem/skolemlaw8.GraphWorth", spec := "graphWorth", named := ["skolem/api.ErrRange", "skolem/api.ErrLimit"], plainKeys := false, apart := false, laid := [("skolem/api.ErrLimit", laid_skolem_api_ErrLimit), ("skolem/api.ErrRange", laid_skolem_api_ErrRange)], narrowed := true }
def GraphWorthUptoSaid : Prop := graphWorthUptoRow.holds Tryd.pinned (OpenSpec.upto graphWorthSpec)

end Rows
end Go.Proofs.YtbighmmjmklioaaDoor
