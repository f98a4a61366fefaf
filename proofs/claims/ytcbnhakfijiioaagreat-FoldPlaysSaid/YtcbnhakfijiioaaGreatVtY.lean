/- Vaults: awake. -/
import Derived.Test.YtcbnhakfijiioaaGreatVtX
import Derived.Test.YtcbnhakfijiioaaGreatVtK
import Derived.Test.YtcbnhakfijiioaaGreatLgE
import Derived.Test.YtcbnhakfijiioaaGreatSpo
namespace Go.Proofs.YtcbnhakfijiioaaGreat
open Go Go.RowKit Go.BigFrame
section
variable {dv dl : Nat} {X Y : Vl2} {e : Int}
theorem vput_e {node : Int} {k : ByteArray} {known : Nat → Int} {t : ByteArray} {d : En} (hX : Kept X) (h : putV X node k known t = (Y, d, e)) : Does Tryz.prog 25 #[.pointer (some ⟨dv, 0, none⟩), .int .i64 node, .string k, vV known, .string t] [vtT dv dl X.1, lgT dl X.2] (.tuple #[dV d, .int .i64 e]) [vtT dv dl Y.1, lgT dl Y.2] := by
 have h1 := vput_d dv dl X hX node k known t
 rw [h] at h1
 exact h1
theorem vdrop_e {n : Int} (hX : Kept X) (h : dropV X n = (Y, e)) : Does Tryz.prog 23 #[.pointer (some ⟨dv, 0, none⟩), .int .i64 n] [vtT dv dl X.1, lgT dl X.2] (.int .i64 e) [vtT dv dl Y.1, lgT dl Y.2] := by
 have h1 := vdrop_d dv dl X hX n
 rw [h] at h1
 exact h1
end
theorem ofrd_d (k : ByteArray) (h : k.size ≤ 1000) : Does Tryz.prog 31 #[.string k] [] (.int .i64 (ofK k)) [] := Does.of_any fun w => ofR_any k w h
end Go.Proofs.YtcbnhakfijiioaaGreat
