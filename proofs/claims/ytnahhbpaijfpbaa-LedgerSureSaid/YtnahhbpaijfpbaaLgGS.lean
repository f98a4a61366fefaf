/- A law of stage 17, for whatever arguments a caller hands over. -/
import Derived.Test.YtnahhbpaijfpbaaLgD
import Derived.Test.YtnahhbpaijfpbaaLgU
namespace Go.Proofs.Ytnahhbpaijfpbaa
open Go Go.RowKit Go.BigFrame

theorem sureLaw (v : Value) (l : List CallL) (W : World) (h : ∀ W' H, (oldT W).p W' H → RowAt elemL W' v l) (q : ∀ y ∈ l, DdQ W y.x ∧ y.x.d.b.v.length ≤ 4398046510976) : Gives Try.prog 5 #[v] W (.bool true) := (sure_d W v l h q).givesOld
end Go.Proofs.Ytnahhbpaijfpbaa
