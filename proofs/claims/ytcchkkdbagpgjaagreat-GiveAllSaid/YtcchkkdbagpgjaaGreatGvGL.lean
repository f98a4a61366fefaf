/- A law of stage 20, for whatever arguments a caller hands over. -/
import Derived.Test.YtcchkkdbagpgjaaGreatQ19
import Derived.Test.YtcchkkdbagpgjaaGreatGvAl
namespace Go.Proofs.YtcchkkdbagpgjaaGreat
open Go Go.RowKit Go.BigFrame
theorem allLaw (n : Int) (v : Value) (l : List Cx) (W : World) (h : ∀ W' H, (oldT W).p W' H → RowAt elemCx W' v l) (_ : ∀ y ∈ l, MxQ W y.x ∧ y.x.m.b.v.length ≤ 4398046510976) : Gives Tryz.prog 5 #[.int .i64 n, v] W (.bool true) := (gall_d (oldT W) v l h n).givesOld
end Go.Proofs.YtcchkkdbagpgjaaGreat
