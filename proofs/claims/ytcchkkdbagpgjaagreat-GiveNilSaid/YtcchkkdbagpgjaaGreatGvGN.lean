/- A law of stage 20, for whatever arguments a caller hands over. -/
import Derived.Test.YtcchkkdbagpgjaaGreatGvC
import Derived.Test.YtcchkkdbagpgjaaGreatGvN
namespace Go.Proofs.YtcchkkdbagpgjaaGreat
open Go Go.RowKit Go.BigFrame
theorem nilLaw (x : Mx) (k : Int) (W : World) (_ : MxQ W x) (_ : x.m.b.v.length ≤ 4398046510976) : Gives Tryz.prog 4 #[.agg x.enc.toArray, .int .i64 k] W (.bool true) := (gnil_d x k).gives W
end Go.Proofs.YtcchkkdbagpgjaaGreat
