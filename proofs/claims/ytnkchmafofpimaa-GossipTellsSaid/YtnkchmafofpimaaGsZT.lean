/- A law of stage 16, for whatever arguments a caller hands over. -/
import Derived.Test.YtnkchmafofpimaaGsD
import Derived.Test.YtnkchmafofpimaaGsS
namespace Go.Proofs.Ytnkchmafofpimaa
open Go Go.RowKit Go.BigFrame

theorem tellsLaw (v : Value) (l : List CallG) (c : Rg × Value) (u : Value) (d : List Int) (W : World) (h_v : ∀ W' H, (oldT W).p W' H → RowAt elemG W' v l) (q_v : ∀ y ∈ l, CallGQ W y) (hc : SrcE elemI W c.2 c.1.p.2.2) (h_u : ∀ W' H, (oldT W).p W' H → RowAt elemD W' u d) (q_u : ∀ y ∈ d, 0 ≤ y ∧ y < 18446744073709551616) : Gives Try.prog 5 #[v, rgV c.1 c.2, u] W (.bool true) := (tells_d W v l h_v q_v c.2 c.1 (srcOld hc) u d h_u q_u).givesOld
end Go.Proofs.Ytnkchmafofpimaa
