/- Contracts of the journal's leaves: Room, Next, isNext, need. -/
import Derived.Test.YtnadknmammjfiaaJdec
namespace Go.Proofs.Ytnadknmammjfiaa
open Go.RowKit
set_option linter.unusedVariables false
set_option maxRecDepth 4000

def isN (ep : Int) (c : Nat) (k e s : Int) : Bool := k == 1 && (e == ep && s == (c : Int) % 4294967296)
end Go.Proofs.Ytnadknmammjfiaa
