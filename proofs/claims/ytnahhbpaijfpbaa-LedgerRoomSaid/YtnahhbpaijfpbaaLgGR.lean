/- A law of stage 17, for whatever arguments a caller hands over. -/
import Derived.Test.YtnahhbpaijfpbaaLgD
import Derived.Test.YtnahhbpaijfpbaaLgQ
namespace Go.Proofs.Ytnahhbpaijfpbaa
open Go Go.RowKit Go.BigFrame

theorem roomLaw (a b : Int) (W : World) : Gives Try.prog 6 #[.int .i64 a, .int .i64 b] W (.bool true) := (room_d a b).gives W
end Go.Proofs.Ytnahhbpaijfpbaa
