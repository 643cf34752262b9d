/-
  NARROWER THAN 'FOR EVERY INPUT', by the rows' own cells (each row's printed sentence says how): LookSays: laid · LookHangs: laid · LookCopies: laid · LookDepths: laid.
  DERIVED. THE GIVEN ROWS OF THIS SEAT. 4 by the template 'for every input the law returns true; each argument reads behind the call as it read before'; 0 by the template 'total and deterministic' (their statements: YtdmhjpofinnpmaaDoorTotals.lean).
  GIVEN WITH THE SEED: the statements are not yours to turn. If you find one false, say at which input.
  Laid BY PROGRAM, IN A SANDBOX (cutbox-rows.mjs): the forced cells as the released guide's own fill.sh prints them over the translation 492577080b34a04f… (all of the seat's roots in one cut). By AI agents, Wed Nov 11 2026. No macro, syntax, notation, axiom, sorry.
-/
import Derived.Test.YtdmhjpofinnpmaaDoorChecked
import GoSem.Claim
import GoSem.ClaimJoined
import GoSem.ClaimMapViews
import Derived.JoinedTies
import Derived.KernelRfl
namespace Go.Proofs.YtdmhjpofinnpmaaDoor
/- THE CELL 'sum', in the pinned program and in every row, IS THE sha256 OF THE DUMP (.gsa) THAT YtdmhjpofinnpmaaDoorProg.lean LOADS. Nothing in Lean hashes anything: it is a label: what it is worth is what the hold of that sum in a sandbox is worth. -/
noncomputable def Tryd.pinned : Pinned := { name := "ytdmhjpofinnpmaadoor", sum := "492577080b34a04fea434e87268b56b17d1456e4a7e6b087faa207e6f80e5bb2", checked := Tryd.checked }
namespace Rows
def none {H : Type} : Left H := { results := [], args := [] }

/- WHAT THE LISTED PACKAGE-LEVEL VARIABLES READ AS WHEN THE CALL BEGINS. Each datum BY PROGRAM (the guide's laid-datum.mjs) off the statement by which the dump's own 'gosem.cut.vars' lays the variable. In a bare row this is a premise. The card (YtdmhjpofinnpmaaDoorCards.lean) ties it to the program's text. -/
def laid_skolem_api_ErrLimit {H : Type} : DataW H := .iface "*errors.errorString" (.ptr (.agg [.lit (.string [109, 111, 114, 101, 32, 116, 104, 97, 110, 32, 109, 97, 121, 32, 98, 101])]))
def laid_skolem_api_ErrRange {H : Type} : DataW H := .iface "*errors.errorString" (.ptr (.agg [.lit (.string [97, 32, 110, 117, 109, 98, 101, 114, 32, 111, 117, 116, 32, 111, 102, 32, 105, 116, 115, 32, 114, 97, 110, 103, 101])]))

/-- 'skolemlaw10.LookSays': WHATEVER THE INPUT: true; the input reads as it did. -/
def lookSaysSpec : ChangeSpec := { name := "lookSays", fn := fun _ => fun
  | [d1, d2, d3, d4, d5, d6] => { results := [.lit (.bool true)], args := [d1, d2, d3, d4, d5, d6] }
  | _ => none }
def lookSaysRow : OpenClaim := { program := "ytdmhjpofinnpmaadoor", sum := "492577080b34a04fea434e87268b56b17d1456e4a7e6b087faa207e6f80e5bb2", func := "skolem/skolemlaw10.LookSays", spec := "lookSays", named := ["skolem/api.ErrLimit", "skolem/api.ErrRange"], plainKeys := false, apart := false, laid := [("skolem/api.ErrLimit", laid_skolem_api_ErrLimit), ("skolem/api.ErrRange", laid_skolem_api_ErrRange)] }
def LookSaysSaid : Prop := lookSaysRow.holds Tryd.pinned (OpenSpec.ofChange lookSaysSpec)

/-- ITS FALSE NEIGHBOUR: 'it returns false'. Refute it at one input. -/
def lookSaysWrong : ChangeSpec := { name := "lookSays", fn := fun _ => fun
  | [d1, d2, d3, d4, d5, d6] => { results := [.lit (.bool false)], args := [d1, d2, d3, d4, d5, d6] }
  | _ => none }
def LookSaysWrongFalsely : Prop := lookSaysRow.holds Tryd.pinned (OpenSpec.ofChange lookSaysWrong)

/-- 'skolemlaw10.LookHangs': WHATEVER THE INPUT: true; the input reads as it did. -/
def lookHangsSpec : ChangeSpec := { name := "lookHangs", fn := fun _ => fun
  | [d1, d2, d3, d4] => { results := [.lit (.bool true)], args := [d1, d2, d3, d4] }
  | _ => none }
def lookHangsRow : OpenClaim := { program := "ytdmhjpofinnpmaadoor", sum := "492577080b34a04fea434e87268b56b17d1456e4a7e6b087faa207e6f80e5bb2", func := "skolem/skolemlaw10.LookHangs", spec := "lookHangs", named := ["skolem/api.ErrLimit", "skolem/api.ErrRange"], plainKeys := false, apart := false, laid := [("skolem/api.ErrLimit", laid_skolem_api_ErrLimit), ("skolem/api.ErrRange", laid_skolem_api_ErrRange)] }
def LookHangsSaid : Prop := lookHangsRow.holds Tryd.pinned (OpenSpec.ofChange lookHangsSpec)

/-- ITS FALSE NEIGHBOUR: 'it returns false'. Refute it at one input. -/
def lookHangsWrong : ChangeSpec := { name := "lookHangs", fn := fun _ => fun
  | [d1, d2, d3, d4] => { results := [.lit (.bool false)], args := [d1, d2, d3, d4] }
  | _ => none }
def LookHangsWrongFalsely : Prop := lookHangsRow.holds Tryd.pinned (OpenSpec.ofChange lookHangsWrong)

/-- 'skolemlaw10.LookCopies': WHATEVER THE INPUT: true; the input reads as it did. -/
def lookCopiesSpec : ChangeSpec := { name := "lookCopies", fn := fun _ => fun
  | [d1, d2, d3, d4] => { results := [.lit (.bool true)], args := [d1, d2, d3, d4] }
  | _ => none }
def lookCopiesRow : OpenClaim := { program := "ytdmhjpofinnpmaadoor", sum := "492577080b34a04fea434e87268b56b17d1456e4a7e6b087faa207e6f80e5bb2", func := "skolem/skolemlaw10.LookCopies", spec := "lookCopies", named := ["skolem/api.ErrLimit", "skolem/api.ErrRange"], plainKeys := false, apart := false, laid := [("skolem/api.ErrLimit", laid_skolem_api_ErrLimit), ("skolem/api.ErrRange", laid_skolem_api_ErrRange)] }
def LookCopiesSaid : Prop := lookCopiesRow.holds Tryd.pinned (OpenSpec.ofChange lookCopiesSpec)

/-- ITS FALSE NEIGHBOUR: 'it returns false'. Refute it at one input. -/
def lookCopiesWrong : ChangeSpec := { name := "lookCopies", fn := fun _ => fun
  | [d1, d2, d3, d4] => { results := [.lit (.bool false)], args := [d1, d2, d3, d4] }
  | _ => none }
def LookCopiesWrongFalsely : Prop := lookCopiesRow.holds Tryd.pinned (OpenSpec.ofChange lookCopiesWrong)

/-- 'skolemlaw10.LookDepths': WHATEVER THE INPUT: true; the input reads as it did. -/
def lookDepthsSpec : ChangeSpec := { name := "lookDepths", fn := fun _ => fun
  | [d1, d2, d3] => { results := [.lit (.bool true)], args := [d1, d2, d3] }
  | _ => none }
def lookDepthsRow : OpenClaim := { program := "ytdmhjpofinnpmaadoor", sum := "492577080b34a04fea434e87268b56b17d1456e4a7e6b087faa207e6f80e5bb2", func := "skolem/skolemlaw10.LookDepths", spec := "lookDepths", named := ["skolem/api.ErrLimit", "skolem/api.ErrRange"], plainKeys := false, apart := false, laid := [("skolem/api.ErrLimit", laid_skolem_api_ErrLimit), ("skolem/api.ErrRange", laid_skolem_api_ErrRange)] }
def LookDepthsSaid : Prop := lookDepthsRow.holds Tryd.pinned (OpenSpec.ofChange lookDepthsSpec)

/-- ITS FALSE NEIGHBOUR: 'it returns false'. Refute it at one input. -/
def lookDepthsWrong : ChangeSpec := { name := "lookDepths", fn := fun _ => fun
  | [d1, d2, d3] => { results := [.lit (.bool false)], args := [d1, d2, d3] }
  | _ => none }
def LookDepthsWrongFalsely : Prop := lookDepthsRow.holds Tryd.pinned (OpenSpec.ofChange lookDepthsWrong)

/- THE SECOND FORM. 'bulk': how many values and letters a reading holds, each counted each time it is reached (what is shared counts as often as it is met; a slice's spare places count too). A statement '..UptoSaid' is the law's where the arguments, and the package variables that the reading takes, are together of bulk at most 1048576: NARROWER than '..Said'. Prove '..Said' where nothing that the law and all that it calls make is longer than what came in: it says more and counts as full. Else prove '..UptoSaid'. A law counts once. -/
mutual
def uptoBulk {H : Type} : DataW H → Nat
  | .lit (.string bytes) => bytes.length + 1
  | .lit _ => 1
  | .nil => 1
  | .ptr d => uptoBulk d + 1
  | .slice elems spare => uptoBulkAll elems + uptoBulkAll spare + 1
  | .agg parts => uptoBulkAll parts + 1
  | .iface _ d => uptoBulk d + 1
  | .map entries => uptoBulkEntries entries + 1
  | .held _ => 1
def uptoBulkAll {H : Type} : List (DataW H) → Nat
  | [] => 0
  | d :: r => uptoBulk d + uptoBulkAll r
def uptoBulkEntries {H : Type} : List (Lit × DataW H) → Nat
  | [] => 0
  | x :: r => uptoBulkEntry x + uptoBulkEntries r
def uptoBulkEntry {H : Type} : Lit × DataW H → Nat
  | (.string bytes, d) => bytes.length + uptoBulk d + 1
  | (_, d) => uptoBulk d + 1
 end
def uptoSmall : (H : Type) → List (DataW H) → Bool := fun _ ds => decide (uptoBulkAll ds ≤ 1048576)
def OpenSpec.upto (s : _root_.Go.ChangeSpec) : _root_.Go.OpenSpec := { _root_.Go.OpenSpec.ofChange s with cond := some uptoSmall }

/-- 'skolemlaw10.LookSays', WHERE WHAT IT READS IS OF BULK AT MOST 1048576: true; the input reads as it did. -/
def lookSaysUptoRow : OpenClaim := { program := "ytdmhjpofinnpmaadoor", sum := "492577080b34a04fea434e87268b56b17d1456e4a7e6b087faa207e6f80e5bb2", func := "skolem/skolemlaw10.LookSays", spec := "lookSays", named := ["skolem/api.ErrLimit", "skolem/api.ErrRange"], plainKeys := false, apart := false, laid := [("skolem/api.ErrLimit", laid_skolem_api_ErrLimit), ("skolem/api.ErrRange", laid_skolem_api_ErrRange)], narrowed := true }
def LookSaysUptoSaid : Prop := lookSaysUptoRow.holds Tryd.pinned (OpenSpec.upto lookSaysSpec)

/-- 'skolemlaw10.LookHangs', WHERE WHAT IT READS IS OF BULK AT MOST 1048576: true; the input reads as it did. -/
def lookHangsUptoRow : OpenClaim := { program := "ytdmhjpofinnpmaadoor", sum := "492577080b34a04fea434e87268b56b17d1456e4a7e6b087faa207e6f80e5bb2", func := "skolem/skolemlaw10.LookHangs", spec := "lookHangs", named := ["skolem/api.ErrLimit", "skolem/api.ErrRange"], plainKeys := false, apart := false, laid := [("skolem/api.ErrLimit", laid_skolem_api_ErrLimit), ("skolem/api.ErrRange", laid_skolem_api_ErrRange)], narrowed := true }
def LookHangsUptoSaid : Prop := lookHangsUptoRow.holds Tryd.pinned (OpenSpec.upto lookHangsSpec)

/-- 'skolemlaw10.LookCopies', WHERE WHAT IT READS IS OF BULK AT MOST 1048576: true; the input reads as it did. -/
def lookCopiesUptoRow : OpenClaim := { program := "ytdmhjpofinnpmaadoor", sum := "492577080b34a04fea434e87268b56b17d1456e4a7e6b087faa207e6f80e5bb2", func := "skolem/skolemlaw10.LookCopies", spec := "lookCopies", named := ["skolem/api.ErrLimit", "skolem/api.ErrRange"], plainKeys := false, apart := false, laid := [("skolem/api.ErrLimit", laid_skolem_api_ErrLimit), ("skolem/api.ErrRange", laid_skolem_api_ErrRange)], narrowed := true }
def LookCopiesUptoSaid : Prop := lookCopiesUptoRow.holds Tryd.pinned (OpenSpec.upto lookCopiesSpec)

/-- 'skolemlaw10.LookDepths', WHERE WHAT IT READS IS OF BULK AT MOST 1048576: true; the input reads as it did. -/
def lookDepthsUptoRow : OpenClaim := { program := "ytdmhjpofinnpmaadoor", sum := "492577080b34a04fea434e87268b56b17d1456e4a7e6b087faa207e6f80e5bb2", func := "skolem/skolemlaw10.LookDepths", spec := "lookDepths", named := ["skolem/api.ErrLimit", "skolem/api.ErrRange"], plainKeys := false, apart := false, laid := [("skolem/api.ErrLimit", laid_skolem_api_ErrLimit), ("skolem/api.ErrRange", laid_skolem_api_ErrRange)], narrowed := true }
def LookDepthsUptoSaid : Prop := lookDepthsUptoRow.holds Tryd.pinned (OpenSpec.upto lookDepthsSpec)

end Rows
end Go.Proofs.YtdmhjpofinnpmaaDoor
