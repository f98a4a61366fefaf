/- A law of stage 19, for whatever arguments a caller hands over. -/
import Derived.Test.YtcbnhakfijiioaaGreatFdD
namespace Go.Proofs.YtcbnhakfijiioaaGreat
open Go Go.ChangeShapes Go.WideShapes Go.ChangeAt Go.RowKit Go.BigFrame
theorem dropsLaw (a b : Int) (W : World) : Gives Tryz.prog 7 #[.int .i64 a, .int .i64 b] W (.bool true) := (fdrops_d a b).gives W
end Go.Proofs.YtcbnhakfijiioaaGreat
