/- A law of stage 16, for whatever arguments a caller hands over. -/
import Derived.Test.YtnkchmafofpimaaGsD
import Derived.Test.YtnkchmafofpimaaGsP
namespace Go.Proofs.Ytnkchmafofpimaa
open Go Go.RowKit Go.BigFrame

theorem playsLaw (n : Int) (v : Value) (l : List CallG) (W : World) (h_v : ∀ W' H, (oldT W).p W' H → RowAt elemG W' v l) (q_v : ∀ y ∈ l, CallGQ W y) : Gives Try.prog 3 #[.int .i64 n, v] W (.bool true) := (plays_d W n v l h_v q_v).givesOld
end Go.Proofs.Ytnkchmafofpimaa
