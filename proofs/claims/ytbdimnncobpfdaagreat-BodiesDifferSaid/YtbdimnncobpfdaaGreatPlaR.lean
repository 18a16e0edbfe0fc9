/- The reference's Check, IsPrefix, Equal, HasDeref; the code's Equal, IsPrefix, HasDeref; slices.Equal of projections. -/
import Derived.Test.YtbdimnncobpfdaaGreatPla
set_option linter.unusedVariables false
namespace Go.Proofs.YtbdimnncobpfdaaGreat
open Go.RowKit

end Go.Proofs.YtbdimnncobpfdaaGreat
