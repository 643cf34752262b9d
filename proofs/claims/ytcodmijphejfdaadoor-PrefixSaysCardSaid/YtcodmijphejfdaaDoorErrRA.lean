/- From the error as it is told to what the helper of the statements sees. Conditions: the errors lie as 'Sents' says. -/
import Derived.Test.YtcodmijphejfdaaDoorTold
import Derived.Test.YtcodmijphejfdaaDoorFault
namespace Go.Proofs.YtcodmijphejfdaaDoor
open Go.RowKit

theorem ErrR.seen {A : Nat → Addr} {w : World} {ev : Value} {c : Int} {p : Bool} {k : Int} (h : ErrR A w ev c p k) (hS : Sents w A) : ErrAs w ev c p k := by
  rcases h with ⟨rfl, rfl, rfl, rfl⟩ | ⟨i, hi, rfl, ⟨rfl, rfl, rfl⟩ | ⟨rfl, b, rfl, h0, h1⟩⟩
  · exact errAs_nil w
  · exact errAs_sent hS i hi
  · exact errAs_at hS i hi b k h0 h1
end Go.Proofs.YtcodmijphejfdaaDoor
