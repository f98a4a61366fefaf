/- A law of stage 18, for whatever arguments a caller hands over. -/
import Derived.Test.YthaabnlhhfnalaaVtV
namespace Go.Proofs.Ythaabnlhhfnalaa
open Go Go.RowKit Go.BigFrame
theorem mergesLaw (v : Value) (l : List Int) (n : Int) (W : World) (h : RowAt elemI W v l) (_ : l.length ≤ 140737488351232) : Gives Try.prog 5 #[v, .int .i64 n] W (.bool true) := (vmerges_d (oldT W) v l (fun _ _ g => OldA.row g h) n).givesOld
end Go.Proofs.Ythaabnlhhfnalaa
