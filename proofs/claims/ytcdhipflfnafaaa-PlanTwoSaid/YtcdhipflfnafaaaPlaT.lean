/- Plans: the laws, for whatever arguments a caller hands over. -/
import Derived.Test.YtcdhipflfnafaaaOpenRow
import Derived.Test.YtcdhipflfnafaaaPlaE
import Derived.Test.YtcdhipflfnafaaaPlaF
import Derived.Test.YtcdhipflfnafaaaPlaG
import Derived.Test.YtcdhipflfnafaaaPlaI
namespace Go.Proofs.Ytcdhipflfnafaaa
open Go Go.ChangeShapes Go.WideShapes Go.ChangeAt Go.RowKit Go.Joins

theorem readI : Readable elemI where
  cells := by kernel_rfl
  bytes := by kernel_rfl
  read h := by
    obtain ⟨n, e, _⟩ := DataW.trod_int Try.underlying3 h
    exact ⟨n, e⟩
theorem read_plan {H : Type} {enc : TypeId × Value → H} {w : World} {base : Nat} {spare : Nat → Bool} {held : Bool} {fuel : Nat} {cs : List Value} {x : DataW H × List MemPlace} (h : DataW.trod enc Try.prog w base spare held fuel 24 cs = some x) : ∃ y : Int × Int × Value × List Int, cs = [.int .i64 y.1, .int .i64 y.2.1, y.2.2.1] ∧ SrcE elemI w y.2.2.1 y.2.2.2 := by
  have cellsInt : Try.prog.cellsOf 3 = 1 := by kernel_rfl
  have cellsRow : Try.prog.cellsOf 22 = 1 := by kernel_rfl
  have cellsP : Try.prog.cellsOf 24 = 3 := by kernel_rfl
  obtain ⟨xs, n, _, _, hlen, hxs, hf⟩ := DataW.trod_struct Try.underlying24 h
  have h0 : DataW.trod enc Try.prog w base spare held n 3 ((cs.drop 0).take (Try.prog.cellsOf 3)) = xs[0]? := hf 0 _ rfl
  have h1 : DataW.trod enc Try.prog w base spare held n 3 ((cs.drop 1).take (Try.prog.cellsOf 3)) = xs[1]? := hf 1 _ rfl
  have h2 : DataW.trod enc Try.prog w base spare held n 22 ((cs.drop 2).take (Try.prog.cellsOf 22)) = xs[2]? := hf 2 _ rfl
  rw [cellsInt] at h0 h1
  rw [cellsRow] at h2
  simp only [List.size_toArray, List.length_cons, List.length_nil, Nat.zero_add, Nat.reduceAdd] at hxs
  match cs, hlen.trans cellsP with
  | [a, b, c], _ =>
    match xs, hxs with
    | [y0, y1, y2], _ =>
      obtain ⟨n0, e0, _⟩ := DataW.trod_int Try.underlying3 (h0.trans rfl)
      obtain ⟨n1, e1, _⟩ := DataW.trod_int Try.underlying3 (h1.trans rfl)
      obtain ⟨v, l, e2, hl, _⟩ := open_elems readI (h2.trans rfl)
      simp at e0 e1 e2
      subst e0 e1 e2
      exact ⟨(n0, n1, c, l), rfl, hl⟩
theorem open_plan {H : Type} {enc : TypeId × Value → H} {w : World} {base : Nat} {spare : Nat → Bool} {held : Bool} {r : Reach} {b0 : Nat} {v : Value} {d : DataW H} {p : List MemPlace} (hv : Value.okWide Try.prog w r b0 24 v) (h : DataW.Trod enc Try.prog w base spare held 24 v d p) :
    ∃ c : Int × Int × Value × List Int, v = .agg #[.int .i64 c.1, .int .i64 c.2.1, c.2.2.1] ∧ SrcE elemI w c.2.2.1 c.2.2.2 := by
  obtain ⟨cs, rfl, _⟩ := okWide_struct Try.underlying24 hv
  obtain ⟨fuel, hf⟩ := h
  obtain ⟨c, hc, hs⟩ := read_plan hf
  refine ⟨c, ?_, hs⟩
  congr 1
  apply Array.toList_inj.1
  simpa [Value.cells] using hc
theorem formsLaw (c0 : Int × Int × Value × List Int) (c1 : Int × Int × Value × List Int) (n2 : Int) (v3 : Value) (l3 : List Int) (W : World) (h0 : SrcE elemI W c0.2.2.1 c0.2.2.2) (h1 : SrcE elemI W c1.2.2.1 c1.2.2.2) (h3 : SrcE elemI W v3 l3) (_ : l3.length * elemI.bytes ≤ 140737488351232) : Gives Try.prog 3 #[.agg #[.int .i64 c0.1, .int .i64 c0.2.1, c0.2.2.1], .agg #[.int .i64 c1.1, .int .i64 c1.2.1, c1.2.2.1], .int .i64 n2, v3] W (.bool true) := (forms_d W c0.2.2.1 c0.1 c0.2.1 c0.2.2.2 h0 c1.2.2.1 c1.1 c1.2.1 c1.2.2.2 h1 n2 v3 l3 h3).givesOld
theorem joinsLaw (c0 : Int × Int × Value × List Int) (c1 : Int × Int × Value × List Int) (c2 : Int × Int × Value × List Int) (n3 : Int) (v4 : Value) (l4 : List Int) (W : World) (h0 : SrcE elemI W c0.2.2.1 c0.2.2.2) (h1 : SrcE elemI W c1.2.2.1 c1.2.2.2) (h2 : SrcE elemI W c2.2.2.1 c2.2.2.2) (h4 : SrcE elemI W v4 l4) (_ : l4.length * elemI.bytes ≤ 140737488351232) : Gives Try.prog 4 #[.agg #[.int .i64 c0.1, .int .i64 c0.2.1, c0.2.2.1], .agg #[.int .i64 c1.1, .int .i64 c1.2.1, c1.2.2.1], .agg #[.int .i64 c2.1, .int .i64 c2.2.1, c2.2.2.1], .int .i64 n3, v4] W (.bool true) := (joins_d W c0.2.2.1 c0.1 c0.2.1 c0.2.2.2 h0 c1.2.2.1 c1.1 c1.2.1 c1.2.2.2 h1 c2.2.2.1 c2.1 c2.2.1 c2.2.2.2 h2 n3 v4 l4 h4).givesOld
theorem ownLaw (c0 : Int × Int × Value × List Int) (n1 : Int) (n2 : Int) (W : World) (h0 : SrcE elemI W c0.2.2.1 c0.2.2.2) : Gives Try.prog 5 #[.agg #[.int .i64 c0.1, .int .i64 c0.2.1, c0.2.2.1], .int .i64 n1, .int .i64 n2] W (.bool true) := (own_d W c0.2.2.1 c0.1 c0.2.1 c0.2.2.2 h0 n1 n2).givesOld
theorem rowLaw (v0 : Value) (l0 : List Int) (n1 : Int) (W : World) (h0 : SrcE elemI W v0 l0) (_ : l0.length * elemI.bytes ≤ 140737488351232) : Gives Try.prog 6 #[v0, .int .i64 n1] W (.bool true) := (row_d W v0 l0 n1 h0).givesOld
theorem twoLaw (c0 : Int × Int × Value × List Int) (n1 : Int) (n2 : Int) (v3 : Value) (l3 : List Int) (v4 : Value) (l4 : List Int) (W : World) (h0 : SrcE elemI W c0.2.2.1 c0.2.2.2) (h3 : SrcE elemI W v3 l3) (_ : l3.length * elemI.bytes ≤ 140737488351232) (h4 : SrcE elemI W v4 l4) (_ : l4.length * elemI.bytes ≤ 140737488351232) : Gives Try.prog 7 #[.agg #[.int .i64 c0.1, .int .i64 c0.2.1, c0.2.2.1], .int .i64 n1, .int .i64 n2, v3, v4] W (.bool true) := (two_d W c0.2.2.1 c0.1 c0.2.1 c0.2.2.2 h0 n1 n2 v3 l3 h3 v4 l4 h4).givesOld
end Go.Proofs.Ytcdhipflfnafaaa
