/- What the closing texts of stage 5 lean on. -/
import Derived.Test.YtcmidomgnbodiaaWatOpen
import Derived.Test.YtcmidomgnbodiaaClkC
