/- Contracts of the reference's functions of layer 1: Put, Part, Fill, Round. -/
import Derived.Test.YtbidlabhekiijaaDoorOctD
namespace Go.Proofs.YtbidlabhekiijaaDoor
open Go.RowKit
set_option linter.unusedVariables false





end Go.Proofs.YtbidlabhekiijaaDoor
