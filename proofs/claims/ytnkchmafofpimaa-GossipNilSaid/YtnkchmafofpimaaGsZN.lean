/- A law of stage 16, for whatever arguments a caller hands over. -/
import Derived.Test.YtnkchmafofpimaaGsD
import Derived.Test.YtnkchmafofpimaaGsN
namespace Go.Proofs.Ytnkchmafofpimaa
open Go Go.RowKit Go.BigFrame

theorem nilLaw (c : CallG) (W : World) (_ : CallGQ W c) : Gives Try.prog 4 #[.agg (CallG.enc c).toArray] W (.bool true) := (nil_d c).gives W
end Go.Proofs.Ytnkchmafofpimaa
