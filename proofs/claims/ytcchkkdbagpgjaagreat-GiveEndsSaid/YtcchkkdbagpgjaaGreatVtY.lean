/- Vaults: awake. -/
import Derived.Test.YtcchkkdbagpgjaaGreatVtX
import Derived.Test.YtcchkkdbagpgjaaGreatQ10
import Derived.Test.YtcchkkdbagpgjaaGreatLgE
import Derived.Test.YtcchkkdbagpgjaaGreatQ06
namespace Go.Proofs.YtcchkkdbagpgjaaGreat
open Go Go.RowKit Go.BigFrame
section
variable {dv dl : Nat} {X Y : Vl2} {e : Int}
theorem vput_e {node : Int} {k : ByteArray} {known : Nat → Int} {t : ByteArray} {d : En} (hX : Kept X) (h : putV X node k known t = (Y, d, e)) : Does Tryz.prog 27 #[.pointer (some ⟨dv, 0, none⟩), .int .i64 node, .string k, vV known, .string t] [vtT dv dl X.1, lgT dl X.2] (.tuple #[dV d, .int .i64 e]) [vtT dv dl Y.1, lgT dl Y.2] := by
 have h1 := vput_d dv dl X hX node k known t
 rw [h] at h1
 exact h1
theorem vkeys_e {S : Vt} {n : Int} {l : List ByteArray} (hS : VtOk S) (hl : S.b.length ≤ 3000) (h : keysV S n = l) : DoesU Tryz.prog 33 #[.pointer (some ⟨dv, 0, none⟩), .int .i64 n] [vtT dv dl S] (fun u => [textsT u l, vtT dv dl S]) := by
 have h1 := vkeys_d dv dl S hS hl n
 rw [h] at h1
 exact h1
end
end Go.Proofs.YtcchkkdbagpgjaaGreat
