/- Contracts of the small functions of package word: a blank, fold. -/
import Derived.Test.YtoppjfambomdmaaRows
import Derived.Test.YtoppjfambomdmaaWordM
import Derived.WalkKit
import Derived.WalkSpells
import Derived.WalkLawsBesides
namespace Go.Proofs.Ytoppjfambomdmaa
open Go.RowKit
set_option linter.all false

end Go.Proofs.Ytoppjfambomdmaa
