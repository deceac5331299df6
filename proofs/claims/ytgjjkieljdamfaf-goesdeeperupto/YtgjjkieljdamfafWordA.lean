/- Contracts of the small functions of package word: a blank, fold. -/
import Derived.Test.YtgjjkieljdamfafRows
import Derived.Test.YtgjjkieljdamfafWordM
import Derived.WalkKit
import Derived.WalkSpells
import Derived.WalkLawsBesides
namespace Go.Proofs.Ytgjjkieljdamfaf
open Go.RowKit
set_option linter.all false

end Go.Proofs.Ytgjjkieljdamfaf
