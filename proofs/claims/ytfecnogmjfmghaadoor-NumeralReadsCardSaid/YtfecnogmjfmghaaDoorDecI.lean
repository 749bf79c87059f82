/- The contracts of dec.Add, dec.Sub, dec.Mul on right numbers, and on others. -/
import Derived.Test.YtfecnogmjfmghaaDoorDecH
import Derived.Test.YtfecnogmjfmghaaDoorDecF
import Derived.Test.YtfecnogmjfmghaaDoorDecC
import Derived.Test.YtfecnogmjfmghaaDoorDecZ
namespace Go.Proofs.YtfecnogmjfmghaaDoor
set_option linter.unusedSimpArgs false
set_option linter.unusedVariables false
set_option linter.unnecessarySimpa false
open Go.RowKit

end Go.Proofs.YtfecnogmjfmghaaDoor
