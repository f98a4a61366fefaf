/- A law of stage 19, for whatever arguments a caller hands over. -/
import Derived.Test.YtcbnhakfijiioaaGreatFdO
namespace Go.Proofs.YtcbnhakfijiioaaGreat
open Go Go.ChangeShapes Go.WideShapes Go.ChangeAt Go.RowKit Go.BigFrame
theorem orderLaw (v : Value) (l : List Int) (n : Int) (W : World) (h : RowAt elemI W v l) (_ : l.length ≤ 140737488351232) : Gives Tryz.prog 6 #[v, .int .i64 n] W (.bool true) := (forder_d (oldT W) v l (fun _ _ g => OldA.row g h) n).givesOld
end Go.Proofs.YtcbnhakfijiioaaGreat
