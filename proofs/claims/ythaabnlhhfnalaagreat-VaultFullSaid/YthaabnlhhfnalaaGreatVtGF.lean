/- A law of stage 18, for whatever arguments a caller hands over. -/
import Derived.Test.YthaabnlhhfnalaaGreatVtF
namespace Go.Proofs.YthaabnlhhfnalaaGreat
open Go Go.RowKit Go.BigFrame
theorem fullLaw (n : Int) (m : Bool) (W : World) : Gives Tryz.prog 4 #[.int .i64 n, .bool m] W (.bool true) := (vfull_d n m).gives W
end Go.Proofs.YthaabnlhhfnalaaGreat
