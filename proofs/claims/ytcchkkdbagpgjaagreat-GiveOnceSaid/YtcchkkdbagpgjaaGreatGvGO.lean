/- A law of stage 20, for whatever arguments a caller hands over. -/
import Derived.Test.YtcchkkdbagpgjaaGreatQ19
import Derived.Test.YtcchkkdbagpgjaaGreatGvO
namespace Go.Proofs.YtcchkkdbagpgjaaGreat
open Go Go.RowKit Go.BigFrame
theorem onceLaw (k how : Int) (x : Mx) (W : World) (_ : MxQ W x) (_ : x.m.b.v.length ≤ 4398046510976) : Gives Tryz.prog 7 #[.int .i64 k, .int .i64 how, .agg x.enc.toArray] W (.bool true) := (gonce_d k how x).gives W
end Go.Proofs.YtcchkkdbagpgjaaGreat
