/- A law of stage 18, for whatever arguments a caller hands over. -/
import Derived.Test.YthaabnlhhfnalaaGreatVtC
import Derived.Test.YthaabnlhhfnalaaGreatVtN
namespace Go.Proofs.YthaabnlhhfnalaaGreat
open Go Go.RowKit Go.BigFrame
theorem nilLaw (c : Cv) (W : World) (q : CvQ W c) (lv : c.b.v.length ≤ 4398046510976) : Gives Tryz.prog 3 #[.agg (cvC c).toArray] W (.bool true) := (vnil_d (oldT W) c (CvL.old q lv)).givesOld
end Go.Proofs.YthaabnlhhfnalaaGreat
