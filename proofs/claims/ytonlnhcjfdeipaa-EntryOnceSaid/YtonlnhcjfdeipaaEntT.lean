/- Entries: the laws, for whatever arguments a caller hands over. -/
import Derived.Test.YtonlnhcjfdeipaaOpenRow
import Derived.Test.YtonlnhcjfdeipaaEntE
namespace Go.Proofs.Ytonlnhcjfdeipaa
open Go Go.ChangeShapes Go.WideShapes Go.ChangeAt Go.RowKit Go.Joins

theorem readI : Readable elemI where
  cells := by kernel_rfl
  bytes := by kernel_rfl
  read h := by
    obtain ⟨n, e, _⟩ := DataW.trod_int Try.underlying3 h
    exact ⟨n, e⟩
theorem read_entry {H : Type} {enc : TypeId × Value → H} {w : World} {base : Nat} {spare : Nat → Bool} {held : Bool} {fuel : Nat} {cs : List Value} {x : DataW H × List MemPlace} (h : DataW.trod enc Try.prog w base spare held fuel 23 cs = some x) : ∃ y : En, cs = [.int .i64 y.1, .int .i64 y.2] := by
  have cellsInt : Try.prog.cellsOf 3 = 1 := by kernel_rfl
  have cellsE : Try.prog.cellsOf 23 = 2 := by kernel_rfl
  obtain ⟨xs, n, _, _, hlen, hxs, hf⟩ := DataW.trod_struct Try.underlying23 h
  have h0 : DataW.trod enc Try.prog w base spare held n 3 ((cs.drop 0).take (Try.prog.cellsOf 3)) = xs[0]? := hf 0 _ rfl
  have h1 : DataW.trod enc Try.prog w base spare held n 3 ((cs.drop 1).take (Try.prog.cellsOf 3)) = xs[1]? := hf 1 _ rfl
  rw [cellsInt] at h0 h1
  simp only [List.size_toArray, List.length_cons, List.length_nil, Nat.zero_add, Nat.reduceAdd] at hxs
  match cs, hlen.trans cellsE with
  | [a, b], _ =>
    match xs, hxs with
    | [y0, y1], _ =>
      obtain ⟨n0, e0, _⟩ := DataW.trod_int Try.underlying3 (h0.trans rfl)
      obtain ⟨n1, e1, _⟩ := DataW.trod_int Try.underlying3 (h1.trans rfl)
      simp at e0 e1
      subst e0 e1
      exact ⟨(n0, n1), rfl⟩
theorem open_entry {H : Type} {enc : TypeId × Value → H} {w : World} {base : Nat} {spare : Nat → Bool} {held : Bool} {r : Reach} {b0 : Nat} {v : Value} {d : DataW H} {p : List MemPlace} (hv : Value.okWide Try.prog w r b0 23 v) (h : DataW.Trod enc Try.prog w base spare held 23 v d p) :
    ∃ c : En, v = .agg #[.int .i64 c.1, .int .i64 c.2] := by
  obtain ⟨cs, rfl, _⟩ := okWide_struct Try.underlying23 hv
  obtain ⟨fuel, hf⟩ := h
  obtain ⟨c, hc⟩ := read_entry hf
  refine ⟨c, ?_⟩
  congr 1
  apply Array.toList_inj.1
  simpa [Value.cells] using hc
theorem formsLaw (a b : En) (to : Int) (W : World) : Gives Try.prog 3 #[.agg #[.int .i64 a.1, .int .i64 a.2], .agg #[.int .i64 b.1, .int .i64 b.2], .int .i64 to] W (.bool true) := (forms_d a.1 a.2 b.1 b.2 to).gives W
theorem joinsLaw (a b c : En) (to : Int) (W : World) : Gives Try.prog 4 #[.agg #[.int .i64 a.1, .int .i64 a.2], .agg #[.int .i64 b.1, .int .i64 b.2], .agg #[.int .i64 c.1, .int .i64 c.2], .int .i64 to] W (.bool true) := (joins_d a.1 a.2 b.1 b.2 c.1 c.2 to).gives W
theorem boundsLaw (e o to : Int) (W : World) : Gives Try.prog 6 #[.int .i64 e, .int .i64 o, .int .i64 to] W (.bool true) := (bounds_d e o to).gives W
theorem onceLaw (v0 : Value) (l0 : List Int) (n : Int) (W : World) (h0 : SrcE elemI W v0 l0) (_ : l0.length * elemI.bytes ≤ 140737488351232) : Gives Try.prog 5 #[v0, .int .i64 n] W (.bool true) := (once_d W v0 l0 n h0.1).givesOld
end Go.Proofs.Ytonlnhcjfdeipaa
