/- The seven laws, for whatever rows a caller hands over. -/
import Derived.Test.YtagpbmgeikjnjaaOpenRow
import Derived.Test.YtagpbmgeikjnjaaClmP
import Derived.Test.YtagpbmgeikjnjaaClmS1
namespace Go.Proofs.Ytagpbmgeikjnjaa
open Go Go.ChangeShapes Go.WideShapes Go.ChangeAt Go.RowKit Go.Joins

theorem readI : Readable elemI where
  cells := by kernel_rfl
  bytes := by kernel_rfl
  read h := by
    obtain ⟨n, e, _⟩ := DataW.trod_int Try.underlying3 h
    exact ⟨n, e⟩
theorem formsLaw (v0 : Value) (l0 : List Int) (v1 : Value) (l1 : List Int) (v2 : Value) (l2 : List Int) (W : World) (h0 : SrcE elemI W v0 l0) (_ : l0.length * elemI.bytes ≤ 140737488351232) (h1 : SrcE elemI W v1 l1) (_ : l1.length * elemI.bytes ≤ 140737488351232) (h2 : SrcE elemI W v2 l2) (_ : l2.length * elemI.bytes ≤ 140737488351232) :
    Gives Try.prog 3 #[v0, v1, v2] W (.bool true) := (forms_d W v0 v1 v2 l0 l1 l2 h0.1 h1.1 h2.1).givesOld
theorem fairLaw (v0 : Value) (l0 : List Int) (v1 : Value) (l1 : List Int) (W : World) (h0 : SrcE elemI W v0 l0) (_ : l0.length * elemI.bytes ≤ 140737488351232) (h1 : SrcE elemI W v1 l1) (_ : l1.length * elemI.bytes ≤ 140737488351232) :
    Gives Try.prog 4 #[v0, v1] W (.bool true) := (fair_d W v0 v1 l0 l1 h0.1 h1.1).givesOld
theorem staysLaw (v0 : Value) (l0 : List Int) (v1 : Value) (l1 : List Int) (W : World) (h0 : SrcE elemI W v0 l0) (_ : l0.length * elemI.bytes ≤ 140737488351232) (h1 : SrcE elemI W v1 l1) (_ : l1.length * elemI.bytes ≤ 140737488351232) :
    Gives Try.prog 5 #[v0, v1] W (.bool true) := (stays_d W v0 v1 l0 l1 h0.1 h1.1 h0).givesOld
theorem comeLaw (v0 : Value) (l0 : List Int) (n : Int) (W : World) (h0 : SrcE elemI W v0 l0) (_ : l0.length * elemI.bytes ≤ 140737488351232) :
    Gives Try.prog 6 #[v0, .int .i64 n] W (.bool true) := (come_d n W v0 l0 h0.1).givesOld
theorem orderLaw (v0 : Value) (l0 : List Int) (v1 : Value) (l1 : List Int) (n : Int) (W : World) (h0 : SrcE elemI W v0 l0) (_ : l0.length * elemI.bytes ≤ 140737488351232) (h1 : SrcE elemI W v1 l1) (_ : l1.length * elemI.bytes ≤ 140737488351232) :
    Gives Try.prog 7 #[v0, v1, .int .i64 n] W (.bool true) := (order_d n W v0 v1 l0 l1 h0.1 h1.1 h1).givesOld
theorem newLaw (v0 : Value) (l0 : List Int) (W : World) (h0 : SrcE elemI W v0 l0) (_ : l0.length * elemI.bytes ≤ 140737488351232) :
    Gives Try.prog 8 #[v0] W (.bool true) := (new_d W v0 l0 h0.1).givesOld
theorem swapsLaw (v0 : Value) (l0 : List Int) (v1 : Value) (l1 : List Int) (W : World) (h0 : SrcE elemI W v0 l0) (_ : l0.length * elemI.bytes ≤ 140737488351232) (h1 : SrcE elemI W v1 l1) (_ : l1.length * elemI.bytes ≤ 140737488351232) :
    Gives Try.prog 9 #[v0, v1] W (.bool true) := (swaps_d W v0 v1 l0 l1 h0.1 h1.1).givesOld
end Go.Proofs.Ytagpbmgeikjnjaa
