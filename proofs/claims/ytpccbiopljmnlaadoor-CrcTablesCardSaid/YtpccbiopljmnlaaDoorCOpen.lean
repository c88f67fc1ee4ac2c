/- A table that came in, as it reads. -/
import Derived.Test.YtpccbiopljmnlaaDoorCFrame
set_option linter.unusedVariables false
set_option linter.unusedSimpArgs false
namespace Go.Proofs.YtpccbiopljmnlaaDoor
open Go.ChangeShapes Go.WideShapes Go.ChangeAt Go.WideMaps Go.WideElems Go.RowKit
end Go.Proofs.YtpccbiopljmnlaaDoor
