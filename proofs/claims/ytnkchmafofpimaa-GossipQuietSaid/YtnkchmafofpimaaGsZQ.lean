/- A law of stage 16, for whatever arguments a caller hands over. -/
import Derived.Test.YtnkchmafofpimaaGsD
import Derived.Test.YtnkchmafofpimaaGsQ
namespace Go.Proofs.Ytnkchmafofpimaa
open Go Go.RowKit Go.BigFrame

theorem quietLaw (n : Int) (v : Value) (l : List Int) (W : World) (h_v : ∀ W' H, (oldT W).p W' H → RowAt elemD W' v l) (q_v : ∀ y ∈ l, 0 ≤ y ∧ y < 18446744073709551616) : Gives Try.prog 7 #[.int .i64 n, v] W (.bool true) := (quiet_d n (oldT W) v l h_v q_v).givesOld
end Go.Proofs.Ytnkchmafofpimaa
