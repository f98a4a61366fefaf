/- Givers: the same messages. -/
import Derived.Test.YtcchkkdbagpgjaaGreatQ18
import Derived.Test.YtcchkkdbagpgjaaGreatBgE
import Derived.Test.YtcchkkdbagpgjaaGreatPA
namespace Go.Proofs.YtcchkkdbagpgjaaGreat
open Go Go.RowKit Go.BigFrame
end Go.Proofs.YtcchkkdbagpgjaaGreat
