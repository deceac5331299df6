/- Contracts of the small functions of package word: a blank, fold. -/
import Derived.Test.YtdcoiibakocbjaaRows
import Derived.Test.YtdcoiibakocbjaaWordM
import Derived.WalkKit
import Derived.WalkSpells
import Derived.WalkLawsBesides
namespace Go.Proofs.Ytdcoiibakocbjaa
open Go.RowKit
set_option linter.all false

end Go.Proofs.Ytdcoiibakocbjaa
