/- Contracts of the small functions of package word: a blank, fold. -/
import Derived.Test.YtgdcifllbfdbhaaRows
import Derived.Test.YtgdcifllbfdbhaaWordM
import Derived.WalkKit
import Derived.WalkSpells
import Derived.WalkLawsBesides
namespace Go.Proofs.Ytgdcifllbfdbhaa
open Go.RowKit
set_option linter.all false

end Go.Proofs.Ytgdcifllbfdbhaa
