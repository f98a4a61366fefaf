/- Givers: all is told, and got. -/
import Derived.Test.YtcchkkdbagpgjaaGreatQ15
namespace Go.Proofs.YtcchkkdbagpgjaaGreat
open Go
theorem keys_ext {l m : List ByteArray} (hl : l.Pairwise ltK) (hm : m.Pairwise ltK) (h : ∀ k, k ∈ l ↔ k ∈ m) : l = m :=
 ((List.perm_ext_iff_of_nodup (hl.imp fun h => ltK_ne h) (hm.imp fun h => ltK_ne h)).2 h).eq_of_pairwise (fun _ _ _ _ h1 h2 => absurd (ltK_trans h1 h2) (ltK_irrefl _)) hl hm
end Go.Proofs.YtcchkkdbagpgjaaGreat
