/- A law of stage 18, for whatever arguments a caller hands over. -/
import Derived.Test.YthaabnlhhfnalaaVtC
import Derived.Test.YthaabnlhhfnalaaVtT
namespace Go.Proofs.Ythaabnlhhfnalaa
open Go Go.RowKit Go.BigFrame
theorem lastsLaw (v : Value) (l : List Cv) (W : World) (h : ∀ W' H, (oldT W).p W' H → RowAt elemC W' v l) (q : ∀ y ∈ l, CvQ W y ∧ y.b.v.length ≤ 4398046510976) : Gives Try.prog 3 #[v] W (.bool true) := (vlasts_d (oldT W) v l h fun y hy => CvL.old (q y hy).1 (q y hy).2).givesOld
end Go.Proofs.Ythaabnlhhfnalaa
