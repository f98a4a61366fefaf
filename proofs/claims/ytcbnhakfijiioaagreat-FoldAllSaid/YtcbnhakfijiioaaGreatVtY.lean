/- Vaults: awake. -/
import Derived.Test.YtcbnhakfijiioaaGreatVtX
import Derived.Test.YtcbnhakfijiioaaGreatVtK
import Derived.Test.YtcbnhakfijiioaaGreatLgE
import Derived.Test.YtcbnhakfijiioaaGreatSpo
namespace Go.Proofs.YtcbnhakfijiioaaGreat
open Go Go.RowKit Go.BigFrame
section
variable {dv dl : Nat} {X Y : Vl2} {e : Int}
theorem vput_e {node : Int} {k : ByteArray} {known : Nat → Int} {t : ByteArray} {d : En} (hX : Kept X) (h : putV X node k known t = (Y, d, e)) : Does Tryz.prog 25 #[.pointer (some ⟨dv, 0, none⟩), .int .i64 node, .string k, vV known, .string t] [vtT dv dl X.1, lgT dl X.2] (.tuple #[dV d, .int .i64 e]) [vtT dv dl Y.1, lgT dl Y.2] := by
 have h1 := vput_d dv dl X hX node k known t
 rw [h] at h1
 exact h1
theorem vdrop_e {n : Int} (hX : Kept X) (h : dropV X n = (Y, e)) : Does Tryz.prog 23 #[.pointer (some ⟨dv, 0, none⟩), .int .i64 n] [vtT dv dl X.1, lgT dl X.2] (.int .i64 e) [vtT dv dl Y.1, lgT dl Y.2] := by
 have h1 := vdrop_d dv dl X hX n
 rw [h] at h1
 exact h1
theorem vbag_e {S : Vt} {k : ByteArray} {b : Bg} (hS : VtOk S) (h : bagV S k = b) : DoesU Tryz.prog 29 #[.pointer (some ⟨dv, 0, none⟩), .string k] [vtT dv dl S] (fun u => [bagT u b, vtT dv dl S]) := by
 have h1 := vbag_d dv dl S hS k
 rw [h] at h1
 exact h1
theorem vkeys_e {S : Vt} {n : Int} {l : List ByteArray} (hS : VtOk S) (hl : S.b.length ≤ 3000) (h : keysV S n = l) : DoesU Tryz.prog 30 #[.pointer (some ⟨dv, 0, none⟩), .int .i64 n] [vtT dv dl S] (fun u => [textsT u l, vtT dv dl S]) := by
 have h1 := vkeys_d dv dl S hS hl n
 rw [h] at h1
 exact h1
end
theorem ofd_d (k : ByteArray) (h : k.size ≤ 1000) : Does Tryz.prog 28 #[.string k] [] (.int .i64 (ofK k)) [] := Does.of_any fun w => of_any k w h
theorem ofrd_d (k : ByteArray) (h : k.size ≤ 1000) : Does Tryz.prog 31 #[.string k] [] (.int .i64 (ofK k)) [] := Does.of_any fun w => ofR_any k w h
def kK : ByteArray := ⟨#[107]⟩
def kA : ByteArray := ⟨#[97]⟩
def w0V : Vl2 := (playD (newL 9).l, newL 9)
theorem w0_kept : Kept w0V := Kept.open (LgOk.new 9)
theorem w_put : (putV w0V 0 kK (fun _ => 0) kA).2 = ((0, 1), 0) := by kernel_rfl
theorem w_bag : (bagV (putV w0V 0 kK (fun _ => 0) kA).1.1 kK).v = [((0, 1), kA)] := by kernel_rfl
theorem w_len : (putV w0V 0 kK (fun _ => 0) kA).1.2.l.length = 1 := by kernel_rfl
end Go.Proofs.YtcbnhakfijiioaaGreat
