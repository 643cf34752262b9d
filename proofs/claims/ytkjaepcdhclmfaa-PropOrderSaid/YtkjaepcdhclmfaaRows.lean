/-
  No cell of these rows narrows 'for every input' (looked for: loops, veiled, ifaces, maps, wideKeys, modest, calm, conditions, laid).
  DERIVED. THE GIVEN ROWS OF THIS SEAT. 4 by the template 'for every input the law returns true; each argument reads behind the call as it read before'; 0 by the template 'total and deterministic' (their statements: YtkjaepcdhclmfaaTotals.lean).
  GIVEN WITH THE SEED: the statements are not yours to turn. If you find one false, say at which input.
  Laid BY PROGRAM, IN A SANDBOX (cutbox-rows.mjs): the forced cells as the released guide's own fill.sh prints them over the translation 9c5703ca9f86f2f4… (all of the seat's roots in one cut). By AI agents, Wed Nov 11 2026. No macro, syntax, notation, axiom, sorry.
-/
import Derived.Test.YtkjaepcdhclmfaaChecked
import GoSem.Claim
import GoSem.ClaimJoined
import GoSem.ClaimMapViews
import Derived.JoinedTies
import Derived.KernelRfl
namespace Go.Proofs.Ytkjaepcdhclmfaa
/- THE CELL 'sum', in the pinned program and in every row, IS THE sha256 OF THE DUMP (.gsa) THAT YtkjaepcdhclmfaaProg.lean LOADS. Nothing in Lean hashes anything: it is a label: what it is worth is what the hold of that sum in a sandbox is worth. -/
noncomputable def Try.pinned : Pinned := { name := "ytkjaepcdhclmfaa", sum := "9c5703ca9f86f2f436ff28e74d89f4795707f99ed009337757cc1bd18fda6d22", checked := Try.checked }
namespace Rows
def none {H : Type} : Left H := { results := [], args := [] }

/-- 'skolemlaw15.PropPlays': WHATEVER THE INPUT: true; the input reads as it did. -/
def propPlaysSpec : ChangeSpec := { name := "propPlays", fn := fun _ => fun
  | [d1, d2] => { results := [.lit (.bool true)], args := [d1, d2] }
  | _ => none }
def propPlaysRow : OpenClaim := { program := "ytkjaepcdhclmfaa", sum := "9c5703ca9f86f2f436ff28e74d89f4795707f99ed009337757cc1bd18fda6d22", func := "skolem/skolemlaw15.PropPlays", spec := "propPlays", unfollowed := true, recurses := true, apart := false }
def PropPlaysSaid : Prop := propPlaysRow.holds Try.pinned (OpenSpec.ofChange propPlaysSpec)

/-- ITS FALSE NEIGHBOUR: 'it returns false'. Refute it at one input. -/
def propPlaysWrong : ChangeSpec := { name := "propPlays", fn := fun _ => fun
  | [d1, d2] => { results := [.lit (.bool false)], args := [d1, d2] }
  | _ => none }
def PropPlaysWrongFalsely : Prop := propPlaysRow.holds Try.pinned (OpenSpec.ofChange propPlaysWrong)

/-- 'skolemlaw15.PropLevels': WHATEVER THE INPUT: true; the input reads as it did. -/
def propLevelsSpec : ChangeSpec := { name := "propLevels", fn := fun _ => fun
  | [d1, d2, d3] => { results := [.lit (.bool true)], args := [d1, d2, d3] }
  | _ => none }
def propLevelsRow : OpenClaim := { program := "ytkjaepcdhclmfaa", sum := "9c5703ca9f86f2f436ff28e74d89f4795707f99ed009337757cc1bd18fda6d22", func := "skolem/skolemlaw15.PropLevels", spec := "propLevels", unfollowed := true, recurses := true, apart := false }
def PropLevelsSaid : Prop := propLevelsRow.holds Try.pinned (OpenSpec.ofChange propLevelsSpec)

/-- ITS FALSE NEIGHBOUR: 'it returns false'. Refute it at one input. -/
def propLevelsWrong : ChangeSpec := { name := "propLevels", fn := fun _ => fun
  | [d1, d2, d3] => { results := [.lit (.bool false)], args := [d1, d2, d3] }
  | _ => none }
def PropLevelsWrongFalsely : Prop := propLevelsRow.holds Try.pinned (OpenSpec.ofChange propLevelsWrong)

/-- 'skolemlaw15.PropOrder': WHATEVER THE INPUT: true; the input reads as it did. -/
def propOrderSpec : ChangeSpec := { name := "propOrder", fn := fun _ => fun
  | [d1, d2, d3] => { results := [.lit (.bool true)], args := [d1, d2, d3] }
  | _ => none }
def propOrderRow : OpenClaim := { program := "ytkjaepcdhclmfaa", sum := "9c5703ca9f86f2f436ff28e74d89f4795707f99ed009337757cc1bd18fda6d22", func := "skolem/skolemlaw15.PropOrder", spec := "propOrder", unfollowed := true, recurses := true, apart := false }
def PropOrderSaid : Prop := propOrderRow.holds Try.pinned (OpenSpec.ofChange propOrderSpec)

/-- ITS FALSE NEIGHBOUR: 'it returns false'. Refute it at one input. -/
def propOrderWrong : ChangeSpec := { name := "propOrder", fn := fun _ => fun
  | [d1, d2, d3] => { results := [.lit (.bool false)], args := [d1, d2, d3] }
  | _ => none }
def PropOrderWrongFalsely : Prop := propOrderRow.holds Try.pinned (OpenSpec.ofChange propOrderWrong)

/-- 'skolemlaw15.PropGrows': WHATEVER THE INPUT: true; the input reads as it did. -/
def propGrowsSpec : ChangeSpec := { name := "propGrows", fn := fun _ => fun
  | [d1, d2] => { results := [.lit (.bool true)], args := [d1, d2] }
  | _ => none }
def propGrowsRow : OpenClaim := { program := "ytkjaepcdhclmfaa", sum := "9c5703ca9f86f2f436ff28e74d89f4795707f99ed009337757cc1bd18fda6d22", func := "skolem/skolemlaw15.PropGrows", spec := "propGrows", unfollowed := true, recurses := true, apart := false }
def PropGrowsSaid : Prop := propGrowsRow.holds Try.pinned (OpenSpec.ofChange propGrowsSpec)

/-- ITS FALSE NEIGHBOUR: 'it returns false'. Refute it at one input. -/
def propGrowsWrong : ChangeSpec := { name := "propGrows", fn := fun _ => fun
  | [d1, d2] => { results := [.lit (.bool false)], args := [d1, d2] }
  | _ => none }
def PropGrowsWrongFalsely : Prop := propGrowsRow.holds Try.pinned (OpenSpec.ofChange propGrowsWrong)

/- THE SECOND FORM. 'bulk': how many values and letters a reading holds, each counted each time it is reached (what is shared counts as often as it is met; a slice's spare places count too). A statement '..UptoSaid' is the law's where the arguments, and the package variables that the reading takes, are together of bulk at most 1048576: NARROWER than '..Said'. Prove '..Said' where nothing that the law and all that it calls make is longer than what came in: it says more and counts as full. Else prove '..UptoSaid'. A law counts once. -/
mutual
def uptoBulk {H : Type} : DataW H → Nat
  | .lit (.string bytes) => bytes.length + 1
  | .lit _ => 1
  | .nil => 1
  | .ptr d => uptoBulk d + 1
  | .slice elems spare => uptoBulkAll elems + uptoBulkAll spare + 1
  | .agg parts => uptoBulkAll parts + 1
  | .iface _ d => uptoBulk d + 1
  | .map entries => uptoBulkEntries entries + 1
  | .held _ => 1
def uptoBulkAll {H : Type} : List (DataW H) → Nat
  | [] => 0
  | d :: r => uptoBulk d + uptoBulkAll r
def uptoBulkEntries {H : Type} : List (Lit × DataW H) → Nat
  | [] => 0
  | x :: r => uptoBulkEntry x + uptoBulkEntries r
def uptoBulkEntry {H : Type} : Lit × DataW H → Nat
  | (.string bytes, d) => bytes.length + uptoBulk d + 1
  | (_, d) => uptoBulk d + 1
 end
def uptoSmall : (H : Type) → List (DataW H) → Bool := fun _ ds => decide (uptoBulkAll ds ≤ 1048576)
def OpenSpec.upto (s : _root_.Go.ChangeSpec) : _root_.Go.OpenSpec := { _root_.Go.OpenSpec.ofChange s with cond := some uptoSmall }

/-- 'skolemlaw15.PropPlays', WHERE WHAT IT READS IS OF BULK AT MOST 1048576: true; the input reads as it did. -/
def propPlaysUptoRow : OpenClaim := { program := "ytkjaepcdhclmfaa", sum := "9c5703ca9f86f2f436ff28e74d89f4795707f99ed009337757cc1bd18fda6d22", func := "skolem/skolemlaw15.PropPlays", spec := "propPlays", unfollowed := true, recurses := true, apart := false, narrowed := true }
def PropPlaysUptoSaid : Prop := propPlaysUptoRow.holds Try.pinned (OpenSpec.upto propPlaysSpec)

/-- 'skolemlaw15.PropLevels', WHERE WHAT IT READS IS OF BULK AT MOST 1048576: true; the input reads as it did. -/
def propLevelsUptoRow : OpenClaim := { program := "ytkjaepcdhclmfaa", sum := "9c5703ca9f86f2f436ff28e74d89f4795707f99ed009337757cc1bd18fda6d22", func := "skolem/skolemlaw15.PropLevels", spec := "propLevels", unfollowed := true, recurses := true, apart := false, narrowed := true }
def PropLevelsUptoSaid : Prop := propLevelsUptoRow.holds Try.pinned (OpenSpec.upto propLevelsSpec)

/-- 'skolemlaw15.PropOrder', WHERE WHAT IT READS IS OF BULK AT MOST 1048576: true; the input reads as it did. -/
def propOrderUptoRow : OpenClaim := { program := "ytkjaepcdhclmfaa", sum := "9c5703ca9f86f2f436ff28e74d89f4795707f99ed009337757cc1bd18fda6d22", func := "skolem/skolemlaw15.PropOrder", spec := "propOrder", unfollowed := true, recurses := true, apart := false, narrowed := true }
def PropOrderUptoSaid : Prop := propOrderUptoRow.holds Try.pinned (OpenSpec.upto propOrderSpec)

/-- 'skolemlaw15.PropGrows', WHERE WHAT IT READS IS OF BULK AT MOST 1048576: true; the input reads as it did. -/
def propGrowsUptoRow : OpenClaim := { program := "ytkjaepcdhclmfaa", sum := "9c5703ca9f86f2f436ff28e74d89f4795707f99ed009337757cc1bd18fda6d22", func := "skolem/skolemlaw15.PropGrows", spec := "propGrows", unfollowed := true, recurses := true, apart := false, narrowed := true }
def PropGrowsUptoSaid : Prop := propGrowsUptoRow.holds Try.pinned (OpenSpec.upto propGrowsSpec)

end Rows
end Go.Proofs.Ytkjaepcdhclmfaa
