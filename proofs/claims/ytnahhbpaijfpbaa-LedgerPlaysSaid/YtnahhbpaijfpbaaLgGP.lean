/- A law of stage 17, for whatever arguments a caller hands over. -/
import Derived.Test.YtnahhbpaijfpbaaLgD
import Derived.Test.YtnahhbpaijfpbaaLgP
namespace Go.Proofs.Ytnahhbpaijfpbaa
open Go Go.RowKit Go.BigFrame

theorem playsLaw (n : Int) (v : Value) (l : List CallL) (W : World) (h : ∀ W' H, (oldT W).p W' H → RowAt elemL W' v l) (q : ∀ y ∈ l, DdQ W y.x ∧ y.x.d.b.v.length ≤ 4398046510976) : Gives Try.prog 3 #[.int .i64 n, v] W (.bool true) := (plays_d W n v l h q).givesOld
end Go.Proofs.Ytnahhbpaijfpbaa
