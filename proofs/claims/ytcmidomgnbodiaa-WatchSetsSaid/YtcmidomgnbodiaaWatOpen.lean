/- The arguments of stage 5's laws, opened. -/
import Derived.Test.YtcmidomgnbodiaaOpenRow
import Derived.Test.YtcmidomgnbodiaaWatTwo
namespace Go.Proofs.Ytcmidomgnbodiaa
open Go Go.ChangeShapes Go.WideShapes Go.ChangeAt Go.RowKit Go.Joins

instance : Inhabited MCall := ⟨⟨0, 0, 0⟩⟩
theorem readI : Readable elemI where
  cells := by kernel_rfl
  bytes := by kernel_rfl
  read h := by
    obtain ⟨n, e, _⟩ := DataW.trod_int Try.underlying3 h
    exact ⟨n, e⟩
theorem read_mcall {H : Type} {enc : TypeId × Value → H} {w : World} {base : Nat} {spare : Nat → Bool} {held : Bool} {fuel : Nat} {cs : List Value} {x : DataW H × List MemPlace} (h : DataW.trod enc Try.prog w base spare held fuel 30 cs = some x) : ∃ y : MCall, cs = elemC.enc y := by
  have cellsInt : Try.prog.cellsOf 3 = 1 := by kernel_rfl
  have cellsCall : Try.prog.cellsOf 30 = 3 := by kernel_rfl
  obtain ⟨xs, n, _, _, hlen, hxs, hf⟩ := DataW.trod_struct Try.underlying30 h
  have h0 : DataW.trod enc Try.prog w base spare held n 3 ((cs.drop 0).take (Try.prog.cellsOf 3)) = xs[0]? := hf 0 _ rfl
  have h1 : DataW.trod enc Try.prog w base spare held n 3 ((cs.drop 1).take (Try.prog.cellsOf 3)) = xs[1]? := hf 1 _ rfl
  have h2 : DataW.trod enc Try.prog w base spare held n 3 ((cs.drop 2).take (Try.prog.cellsOf 3)) = xs[2]? := hf 2 _ rfl
  rw [cellsInt] at h0 h1 h2
  simp only [List.size_toArray, List.length_cons, List.length_nil, Nat.zero_add, Nat.reduceAdd] at hxs
  match cs, hlen.trans cellsCall with
  | [a, b, c], _ =>
    match xs, hxs with
    | [y0, y1, y2], _ =>
      obtain ⟨n0, e0, _⟩ := DataW.trod_int Try.underlying3 (h0.trans rfl)
      obtain ⟨n1, e1, _⟩ := DataW.trod_int Try.underlying3 (h1.trans rfl)
      obtain ⟨n2, e2, _⟩ := DataW.trod_int Try.underlying3 (h2.trans rfl)
      simp at e0 e1 e2
      subst e0 e1 e2
      exact ⟨⟨n0, n1, n2⟩, rfl⟩
theorem readC : Readable elemC where
  cells := by kernel_rfl
  bytes := by kernel_rfl
  read := read_mcall
theorem open_mcall {H : Type} {enc : TypeId × Value → H} {w : World} {base : Nat} {spare : Nat → Bool} {held : Bool} {r : Reach} {b0 : Nat} {v : Value} {d : DataW H} {p : List MemPlace} (hv : Value.okWide Try.prog w r b0 30 v) (h : DataW.Trod enc Try.prog w base spare held 30 v d p) :
    ∃ c : MCall, v = .agg #[.int .i64 c.do', .int .i64 c.id, .int .i64 c.at'] := by
  obtain ⟨cs, rfl, _⟩ := okWide_struct Try.underlying30 hv
  obtain ⟨fuel, hf⟩ := h
  obtain ⟨c, hc⟩ := read_mcall hf
  refine ⟨c, ?_⟩
  congr 1
  apply Array.toList_inj.1
  simpa [Value.cells, elemC] using hc
end Go.Proofs.Ytcmidomgnbodiaa
