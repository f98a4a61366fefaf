/- RgT: RgT. -/
import Derived.Test.YtcbnhakfijiioaaGreatPB
import Derived.Test.YtcbnhakfijiioaaGreatRgE
namespace Go.Proofs.YtcbnhakfijiioaaGreat
end Go.Proofs.YtcbnhakfijiioaaGreat
