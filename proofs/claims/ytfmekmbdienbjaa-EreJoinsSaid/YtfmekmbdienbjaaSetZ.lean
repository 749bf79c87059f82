/- errors.As finds an error at a place. -/
import Derived.Test.YtfmekmbdienbjaaSetY
namespace Go.Proofs.Ytfmekmbdienbjaa
set_option linter.unusedSimpArgs false
set_option linter.unusedVariables false
set_option linter.unnecessarySimpa false
open Go.RowKit Go.Extern.Stop Go.Stop Go.Extern

end Go.Proofs.Ytfmekmbdienbjaa
