/- A law of stage 17, for whatever arguments a caller hands over. -/
import Derived.Test.YtnahhbpaijfpbaaLgD
import Derived.Test.YtnahhbpaijfpbaaLgZ
namespace Go.Proofs.Ytnahhbpaijfpbaa
open Go Go.RowKit Go.BigFrame

theorem ownLaw (x : Dx) (n : Int) (W : World) (q : DdQ W x) (lv : x.d.b.v.length ≤ 4398046510976) : Gives Try.prog 7 #[ddV x.d (.slice x.vp x.vn x.vc) (.slice x.rp x.rn x.rc), .int .i64 n] W (.bool true) := (own_d W x n q lv).givesOld
end Go.Proofs.Ytnahhbpaijfpbaa
