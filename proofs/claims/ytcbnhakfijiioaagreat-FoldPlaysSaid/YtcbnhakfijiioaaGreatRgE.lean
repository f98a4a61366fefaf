/- RgE: RgE, RgH, RgI. -/
import Derived.Test.YtcbnhakfijiioaaGreatRgK
import Derived.Test.YtcbnhakfijiioaaGreatRgL
namespace Go.Proofs.YtcbnhakfijiioaaGreat
end Go.Proofs.YtcbnhakfijiioaaGreat
