/- That the program is awake. Conditions: none. -/
import Derived.Test.YtjofdamobnemcaaL9Any
namespace Go.Proofs.Ytjofdamobnemcaa.L9
open Go.ChangeShapes Go.WideShapes Go.ChangeAt Go.RowKit
open Go.Proofs.Ytjofdamobnemcaa.L5 (Cl clV rtB Tb clAt shX shR shD woV hoB IsCls newX isRf)
set_option linter.unusedVariables false
def aC : List Cl := [⟨4, 1, 2, false⟩]
def aN (i r : Int) : Nd := ⟨i, 1, [r], [0, 0], false⟩
end Go.Proofs.Ytjofdamobnemcaa.L9
