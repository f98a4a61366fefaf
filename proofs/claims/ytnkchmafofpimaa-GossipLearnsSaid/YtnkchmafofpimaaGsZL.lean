/- A law of stage 16, for whatever arguments a caller hands over. -/
import Derived.Test.YtnkchmafofpimaaGsD
import Derived.Test.YtnkchmafofpimaaGsE
namespace Go.Proofs.Ytnkchmafofpimaa
open Go Go.RowKit Go.BigFrame

theorem learnsLaw (v : Value) (l : List CallG) (n : Int) (W : World) (h_v : ∀ W' H, (oldT W).p W' H → RowAt elemG W' v l) (q_v : ∀ y ∈ l, CallGQ W y) : Gives Try.prog 6 #[v, .int .i64 n] W (.bool true) := (learns_d W n v l h_v q_v).givesOld
end Go.Proofs.Ytnkchmafofpimaa
