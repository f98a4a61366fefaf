/- A law of stage 18, for whatever arguments a caller hands over. -/
import Derived.Test.YthaabnlhhfnalaaRgT
import Derived.Test.YthaabnlhhfnalaaVtS
namespace Go.Proofs.Ythaabnlhhfnalaa
open Go Go.RowKit Go.BigFrame
theorem readS : Readable elemS where
 cells := by kernel_rfl
 bytes := by kernel_rfl
 read h := by
  obtain ⟨s, e, _⟩ := DataW.trod_string Try.underlying9 h
  exact ⟨s, e⟩
theorem keysLaw (v : Value) (l : List ByteArray) (n : Int) (W : World) (h : RowAt elemS W v l) (_ : l.length ≤ 140737488351232) : Gives Try.prog 4 #[v, .int .i64 n] W (.bool true) := (vkeysLaw_d (oldT W) v l (fun _ _ g => OldA.row g h) n).givesOld
end Go.Proofs.Ythaabnlhhfnalaa
