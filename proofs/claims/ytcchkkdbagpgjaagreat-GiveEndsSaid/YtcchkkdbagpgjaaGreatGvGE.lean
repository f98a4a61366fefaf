/- A law of stage 20, for whatever arguments a caller hands over. -/
import Derived.Test.YtcchkkdbagpgjaaGreatGvU
namespace Go.Proofs.YtcchkkdbagpgjaaGreat
open Go Go.RowKit Go.BigFrame
theorem endsLaw (v : Value) (l : List Int) (n : Int) (W : World) (h : RowAt elemI W v l) (_ : l.length ≤ 140737488351232) : Gives Tryz.prog 8 #[v, .int .i64 n] W (.bool true) := (gends_d (oldT W) v l (fun _ _ g => OldA.row g h) n).givesOld
end Go.Proofs.YtcchkkdbagpgjaaGreat
