/- Space: the laws, for whatever arguments a caller hands over. -/
import Derived.Test.YthibiejneggmoaaDoorOpenRow
import Derived.Test.YthibiejneggmoaaDoorSpF
namespace Go.Proofs.YthibiejneggmoaaDoor
open Go Go.ChangeShapes Go.WideShapes Go.ChangeAt Go.RowKit Go.Joins

theorem readI : Readable elemI where
  cells := by kernel_rfl
  bytes := by kernel_rfl
  read h := by
    obtain ⟨n, e, _⟩ := DataW.trod_int Tryd.underlying3 h
    exact ⟨n, e⟩
theorem formsLaw (v0 : Value) (l0 : List Int) (v1 : Value) (l1 : List Int) (n2 : Int) (n3 : Int) (W : World) (h0 : SrcE elemI W v0 l0) (_ : l0.length * elemI.bytes ≤ 140737488351232) (h1 : SrcE elemI W v1 l1) (_ : l1.length * elemI.bytes ≤ 140737488351232) : Gives Tryd.prog 3 #[v0, v1, .int .i64 n2, .int .i64 n3] W (.bool true) := (forms_d W v0 v1 l0 l1 h0.1 h1.1 n2 n3).givesOld
end Go.Proofs.YthibiejneggmoaaDoor
