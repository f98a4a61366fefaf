/- Space: the laws, for whatever arguments a caller hands over. -/
import Derived.Test.YthibiejneggmoaaOpenRow
import Derived.Test.YthibiejneggmoaaSpG
import Derived.Test.YthibiejneggmoaaSpH
import Derived.Test.YthibiejneggmoaaSpI
import Derived.Test.YthibiejneggmoaaSpJ
namespace Go.Proofs.Ythibiejneggmoaa
open Go Go.ChangeShapes Go.WideShapes Go.ChangeAt Go.RowKit Go.Joins

theorem readI : Readable elemI where
  cells := by kernel_rfl
  bytes := by kernel_rfl
  read h := by
    obtain ⟨n, e, _⟩ := DataW.trod_int Try.underlying3 h
    exact ⟨n, e⟩
theorem roundLaw (v0 : Value) (l0 : List Int) (n1 : Int) (W : World) (h0 : SrcE elemI W v0 l0) (_ : l0.length * elemI.bytes ≤ 140737488351232) : Gives Try.prog 3 #[v0, .int .i64 n1] W (.bool true) := (round_d W v0 l0 h0.1 n1).givesOld
theorem turnedLaw (v0 : Value) (l0 : List Int) (v1 : Value) (l1 : List Int) (n2 : Int) (n3 : Int) (W : World) (h0 : SrcE elemI W v0 l0) (_ : l0.length * elemI.bytes ≤ 140737488351232) (h1 : SrcE elemI W v1 l1) (_ : l1.length * elemI.bytes ≤ 140737488351232) : Gives Try.prog 4 #[v0, v1, .int .i64 n2, .int .i64 n3] W (.bool true) := (turned_d W v0 v1 l0 l1 h0 h1.1 n2 n3).givesOld
theorem claimsLaw (v0 : Value) (l0 : List Int) (v1 : Value) (l1 : List Int) (W : World) (h0 : SrcE elemI W v0 l0) (_ : l0.length * elemI.bytes ≤ 140737488351232) (h1 : SrcE elemI W v1 l1) (_ : l1.length * elemI.bytes ≤ 140737488351232) : Gives Try.prog 5 #[v0, v1] W (.bool true) := (claims_d W v0 v1 l0 l1 h0.1 h1.1).givesOld
theorem textsLaw (v0 : Value) (l0 : List Int) (v1 : Value) (l1 : List Int) (W : World) (h0 : SrcE elemI W v0 l0) (_ : l0.length * elemI.bytes ≤ 140737488351232) (h1 : SrcE elemI W v1 l1) (_ : l1.length * elemI.bytes ≤ 140737488351232) : Gives Try.prog 6 #[v0, v1] W (.bool true) := (texts_d W v0 v1 l0 l1 h0.1 h1.1).givesOld
end Go.Proofs.Ythibiejneggmoaa
