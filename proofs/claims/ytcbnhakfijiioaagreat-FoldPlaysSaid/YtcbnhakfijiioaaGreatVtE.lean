/- Vaults: full ones. No program. -/
import Derived.Test.YtcbnhakfijiioaaGreatVtR
import Derived.Laws.BytesArg
namespace Go.Proofs.YtcbnhakfijiioaaGreat
open Go
end Go.Proofs.YtcbnhakfijiioaaGreat
