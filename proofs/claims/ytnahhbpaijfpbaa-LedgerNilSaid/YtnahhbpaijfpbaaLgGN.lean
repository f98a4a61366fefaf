/- A law of stage 17, for whatever arguments a caller hands over. -/
import Derived.Test.YtnahhbpaijfpbaaLgD
import Derived.Test.YtnahhbpaijfpbaaLgY
namespace Go.Proofs.Ytnahhbpaijfpbaa
open Go Go.RowKit Go.BigFrame

theorem nilLaw (c : CallL) (W : World) (q : DdQ W c.x) (lv : c.x.d.b.v.length ≤ 4398046510976) : Gives Try.prog 4 #[.agg (CallL.enc c).toArray] W (.bool true) := (nil_d (oldT W) c ⟨vOld q.1, lv, srcOld q.2⟩).givesOld
end Go.Proofs.Ytnahhbpaijfpbaa
