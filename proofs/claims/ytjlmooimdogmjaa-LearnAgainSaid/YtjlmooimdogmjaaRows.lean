/-
  No cell of these rows narrows 'for every input' (looked for: loops, veiled, ifaces, maps, wideKeys, modest, calm, conditions, laid).
  DERIVED. THE GIVEN ROWS OF THIS SEAT. 5 by the template 'for every input the law returns true; each argument reads behind the call as it read before'; 0 by the template 'total and deterministic' (their statements: YtjlmooimdogmjaaTotals.lean).
  GIVEN WITH THE SEED: the statements are not yours to turn. If you find one false, say at which input.
  Laid BY PROGRAM, IN A SANDBOX (cutbox-rows.mjs): the forced cells as the released guide's own fill.sh prints them over the translation 3d63a37a3d6c7735… (all of the seat's roots in one cut). By AI agents, Wed Nov 11 2026. No macro, syntax, notation, axiom, sorry.
-/
import Derived.Test.YtjlmooimdogmjaaChecked
import GoSem.Claim
import GoSem.ClaimJoined
import GoSem.ClaimMapViews
import Derived.JoinedTies
import Derived.KernelRfl
namespace Go.Proofs.Ytjlmooimdogmjaa
/- THE CELL 'sum', in the pinned program and in every row, IS THE sha256 OF THE DUMP (.gsa) THAT YtjlmooimdogmjaaProg.lean LOADS. Nothing in Lean hashes anything: it is a label: what it is worth is what the hold of that sum in a sandbox is worth. -/
noncomputable def Try.pinned : Pinned := { name := "ytjlmooimdogmjaa", sum := "3d63a37a3d6c77355b1f08cb50d1912f0a0159a4d173117bc17cd16bb5d6b961", checked := Try.checked }
namespace Rows
def none {H : Type} : Left H := { results := [], args := [] }

/-- 'skolemlaw16.LearnSays': WHATEVER THE INPUT: true; the input reads as it did. -/
def learnSaysSpec : ChangeSpec := { name := "learnSays", fn := fun _ => fun
  | [d1, d2] => { results := [.lit (.bool true)], args := [d1, d2] }
  | _ => none }
def learnSaysRow : OpenClaim := { program := "ytjlmooimdogmjaa", sum := "3d63a37a3d6c77355b1f08cb50d1912f0a0159a4d173117bc17cd16bb5d6b961", func := "skolem/skolemlaw16.LearnSays", spec := "learnSays", unfollowed := true, recurses := true, apart := false }
def LearnSaysSaid : Prop := learnSaysRow.holds Try.pinned (OpenSpec.ofChange learnSaysSpec)

/-- ITS FALSE NEIGHBOUR: 'it returns false'. Refute it at one input. -/
def learnSaysWrong : ChangeSpec := { name := "learnSays", fn := fun _ => fun
  | [d1, d2] => { results := [.lit (.bool false)], args := [d1, d2] }
  | _ => none }
def LearnSaysWrongFalsely : Prop := learnSaysRow.holds Try.pinned (OpenSpec.ofChange learnSaysWrong)

/-- 'skolemlaw16.LearnShortens': WHATEVER THE INPUT: true; the input reads as it did. -/
def learnShortensSpec : ChangeSpec := { name := "learnShortens", fn := fun _ => fun
  | [d1, d2] => { results := [.lit (.bool true)], args := [d1, d2] }
  | _ => none }
def learnShortensRow : OpenClaim := { program := "ytjlmooimdogmjaa", sum := "3d63a37a3d6c77355b1f08cb50d1912f0a0159a4d173117bc17cd16bb5d6b961", func := "skolem/skolemlaw16.LearnShortens", spec := "learnShortens", unfollowed := true, recurses := true, apart := false }
def LearnShortensSaid : Prop := learnShortensRow.holds Try.pinned (OpenSpec.ofChange learnShortensSpec)

/-- ITS FALSE NEIGHBOUR: 'it returns false'. Refute it at one input. -/
def learnShortensWrong : ChangeSpec := { name := "learnShortens", fn := fun _ => fun
  | [d1, d2] => { results := [.lit (.bool false)], args := [d1, d2] }
  | _ => none }
def LearnShortensWrongFalsely : Prop := learnShortensRow.holds Try.pinned (OpenSpec.ofChange learnShortensWrong)

/-- 'skolemlaw16.LearnFinal': WHATEVER THE INPUT: true; the input reads as it did. -/
def learnFinalSpec : ChangeSpec := { name := "learnFinal", fn := fun _ => fun
  | [d1, d2, d3] => { results := [.lit (.bool true)], args := [d1, d2, d3] }
  | _ => none }
def learnFinalRow : OpenClaim := { program := "ytjlmooimdogmjaa", sum := "3d63a37a3d6c77355b1f08cb50d1912f0a0159a4d173117bc17cd16bb5d6b961", func := "skolem/skolemlaw16.LearnFinal", spec := "learnFinal", unfollowed := true, recurses := true, apart := false }
def LearnFinalSaid : Prop := learnFinalRow.holds Try.pinned (OpenSpec.ofChange learnFinalSpec)

/-- ITS FALSE NEIGHBOUR: 'it returns false'. Refute it at one input. -/
def learnFinalWrong : ChangeSpec := { name := "learnFinal", fn := fun _ => fun
  | [d1, d2, d3] => { results := [.lit (.bool false)], args := [d1, d2, d3] }
  | _ => none }
def LearnFinalWrongFalsely : Prop := learnFinalRow.holds Try.pinned (OpenSpec.ofChange learnFinalWrong)

/-- 'skolemlaw16.LearnChain': WHATEVER THE INPUT: true; the input reads as it did. -/
def learnChainSpec : ChangeSpec := { name := "learnChain", fn := fun _ => fun
  | [d1, d2] => { results := [.lit (.bool true)], args := [d1, d2] }
  | _ => none }
def learnChainRow : OpenClaim := { program := "ytjlmooimdogmjaa", sum := "3d63a37a3d6c77355b1f08cb50d1912f0a0159a4d173117bc17cd16bb5d6b961", func := "skolem/skolemlaw16.LearnChain", spec := "learnChain", unfollowed := true, recurses := true, apart := false }
def LearnChainSaid : Prop := learnChainRow.holds Try.pinned (OpenSpec.ofChange learnChainSpec)

/-- ITS FALSE NEIGHBOUR: 'it returns false'. Refute it at one input. -/
def learnChainWrong : ChangeSpec := { name := "learnChain", fn := fun _ => fun
  | [d1, d2] => { results := [.lit (.bool false)], args := [d1, d2] }
  | _ => none }
def LearnChainWrongFalsely : Prop := learnChainRow.holds Try.pinned (OpenSpec.ofChange learnChainWrong)

/-- 'skolemlaw16.LearnAgain': WHATEVER THE INPUT: true; the input reads as it did. -/
def learnAgainSpec : ChangeSpec := { name := "learnAgain", fn := fun _ => fun
  | [d1, d2] => { results := [.lit (.bool true)], args := [d1, d2] }
  | _ => none }
def learnAgainRow : OpenClaim := { program := "ytjlmooimdogmjaa", sum := "3d63a37a3d6c77355b1f08cb50d1912f0a0159a4d173117bc17cd16bb5d6b961", func := "skolem/skolemlaw16.LearnAgain", spec := "learnAgain", unfollowed := true, recurses := true, apart := false }
def LearnAgainSaid : Prop := learnAgainRow.holds Try.pinned (OpenSpec.ofChange learnAgainSpec)

/-- ITS FALSE NEIGHBOUR: 'it returns false'. Refute it at one input. -/
def learnAgainWrong : ChangeSpec := { name := "learnAgain", fn := fun _ => fun
  | [d1, d2] => { results := [.lit (.bool false)], args := [d1, d2] }
  | _ => none }
def LearnAgainWrongFalsely : Prop := learnAgainRow.holds Try.pinned (OpenSpec.ofChange learnAgainWrong)

/- THE SECOND FORM. 'bulk': how many values and letters a reading holds, each counted each time it is reached (what is shared counts as often as it is met; a slice's spare places count too). A statement '..UptoSaid' is the law's where the arguments, and the package variables that the reading takes, are together of bulk at most 1048576: NARROWER than '..Said'. Prove '..Said' where nothing that the law and all that it calls make is longer than what came in: it says more and counts as full. Else prove '..UptoSaid'. A law counts once. -/
mutual
def uptoBulk {H : Type} : DataW H → Nat
  | .lit (.string bytes) => bytes.length + 1
  | .lit _ => 1
  | .nil => 1
  | .ptr d => uptoBulk d + 1
  | .slice elems spare => uptoBulkAll elems + uptoBulkAll spare + 1
  | .agg parts => uptoBulkAll parts + 1
  | .iface _ d => uptoBulk d + 1
  | .map entries => uptoBulkEntries entries + 1
  | .held _ => 1
def uptoBulkAll {H : Type} : List (DataW H) → Nat
  | [] => 0
  | d :: r => uptoBulk d + uptoBulkAll r
def uptoBulkEntries {H : Type} : List (Lit × DataW H) → Nat
  | [] => 0
  | x :: r => uptoBulkEntry x + uptoBulkEntries r
def uptoBulkEntry {H : Type} : Lit × DataW H → Nat
  | (.string bytes, d) => bytes.length + uptoBulk d + 1
  | (_, d) => uptoBulk d + 1
 end
def uptoSmall : (H : Type) → List (DataW H) → Bool := fun _ ds => decide (uptoBulkAll ds ≤ 1048576)
def OpenSpec.upto (s : _root_.Go.ChangeSpec) : _root_.Go.OpenSpec := { _root_.Go.OpenSpec.ofChange s with cond := some uptoSmall }

/-- 'skolemlaw16.LearnSays', WHERE WHAT IT READS IS OF BULK AT MOST 1048576: true; the input reads as it did. -/
def learnSaysUptoRow : OpenClaim := { program := "ytjlmooimdogmjaa", sum := "3d63a37a3d6c77355b1f08cb50d1912f0a0159a4d173117bc17cd16bb5d6b961", func := "skolem/skolemlaw16.LearnSays", spec := "learnSays", unfollowed := true, recurses := true, apart := false, narrowed := true }
def LearnSaysUptoSaid : Prop := learnSaysUptoRow.holds Try.pinned (OpenSpec.upto learnSaysSpec)

/-- 'skolemlaw16.LearnShortens', WHERE WHAT IT READS IS OF BULK AT MOST 1048576: true; the input reads as it did. -/
def learnShortensUptoRow : OpenClaim := { program := "ytjlmooimdogmjaa", sum := "3d63a37a3d6c77355b1f08cb50d1912f0a0159a4d173117bc17cd16bb5d6b961", func := "skolem/skolemlaw16.LearnShortens", spec := "learnShortens", unfollowed := true, recurses := true, apart := false, narrowed := true }
def LearnShortensUptoSaid : Prop := learnShortensUptoRow.holds Try.pinned (OpenSpec.upto learnShortensSpec)

/-- 'skolemlaw16.LearnFinal', WHERE WHAT IT READS IS OF BULK AT MOST 1048576: true; the input reads as it did. -/
def learnFinalUptoRow : OpenClaim := { program := "ytjlmooimdogmjaa", sum := "3d63a37a3d6c77355b1f08cb50d1912f0a0159a4d173117bc17cd16bb5d6b961", func := "skolem/skolemlaw16.LearnFinal", spec := "learnFinal", unfollowed := true, recurses := true, apart := false, narrowed := true }
def LearnFinalUptoSaid : Prop := learnFinalUptoRow.holds Try.pinned (OpenSpec.upto learnFinalSpec)

/-- 'skolemlaw16.LearnChain', WHERE WHAT IT READS IS OF BULK AT MOST 1048576: true; the input reads as it did. -/
def learnChainUptoRow : OpenClaim := { program := "ytjlmooimdogmjaa", sum := "3d63a37a3d6c77355b1f08cb50d1912f0a0159a4d173117bc17cd16bb5d6b961", func := "skolem/skolemlaw16.LearnChain", spec := "learnChain", unfollowed := true, recurses := true, apart := false, narrowed := true }
def LearnChainUptoSaid : Prop := learnChainUptoRow.holds Try.pinned (OpenSpec.upto learnChainSpec)

/-- 'skolemlaw16.LearnAgain', WHERE WHAT IT READS IS OF BULK AT MOST 1048576: true; the input reads as it did. -/
def learnAgainUptoRow : OpenClaim := { program := "ytjlmooimdogmjaa", sum := "3d63a37a3d6c77355b1f08cb50d1912f0a0159a4d173117bc17cd16bb5d6b961", func := "skolem/skolemlaw16.LearnAgain", spec := "learnAgain", unfollowed := true, recurses := true, apart := false, narrowed := true }
def LearnAgainUptoSaid : Prop := learnAgainUptoRow.holds Try.pinned (OpenSpec.upto learnAgainSpec)

end Rows
end Go.Proofs.Ytjlmooimdogmjaa
