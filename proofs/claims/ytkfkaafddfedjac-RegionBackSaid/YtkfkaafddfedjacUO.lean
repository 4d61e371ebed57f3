/- Package region: Gap. -/
import Derived.Test.YtkfkaafddfedjacUN
namespace Go.Proofs.Ytkfkaafddfedjac
open Go.RowKit Go.ChangeShapes Go.WideShapes Go.Deep
set_option linter.unusedVariables false
set_option linter.unusedSimpArgs false

end Go.Proofs.Ytkfkaafddfedjac
