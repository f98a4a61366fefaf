/- Arguments that are lists of claims, opened with their capacity. -/
import Derived.Test.YtbddjhkoikcgjaaOpen
import Derived.Test.YtbddjhkoikcgjaaAppend
namespace Go.Proofs.Ytbddjhkoikcgjaa
open Go Go.ChangeShapes Go.WideShapes Go.ChangeAt Go.RowKit Go.Joins

section
variable {H : Type} {enc : TypeId × Value → H} {w : World} {base : Nat} {spare : Nat → Bool} {held : Bool}
theorem open_source {r : Reach} {b0 : Nat} {v : Value} {d : DataW H} {p : List MemPlace} (hv : Value.okWide Try.prog w r b0 28 v) (h : DataW.Trod enc Try.prog w base spare held 28 v d p) :
    ∃ l : List Cl, SrcAt w v l ∧ (l = [] ∨ ∃ es sp, d = .slice es sp ∧ es.length = l.length) := by
  obtain ⟨l, hl, hd⟩ := open_list hv h
  refine ⟨l, ⟨hl, ?_⟩, hd⟩
  obtain ⟨a, len, cap, rfl⟩ := okWide_slice Try.underlying28 hv
  obtain ⟨fuel, hf⟩ := h
  obtain ⟨p', cap', he, _⟩ := hl.form
  simp only [Value.slice.injEq] at he
  obtain ⟨rfl, rfl, rfl⟩ := he
  rcases Go.Deep.open_slice Try.underlying28 hf with ⟨hcs, _⟩ | ⟨a', len', cap', m, n, D, Pl, hcs, _, hlc, _⟩
  · simp only [Value.cells, List.cons.injEq, Value.slice.injEq, and_true] at hcs
    obtain ⟨rfl, hl0, rfl⟩ := hcs
    exact ⟨none, 0, by rw [hl0], by omega, fun _ => rfl⟩
  · simp only [Value.cells, List.cons.injEq, Value.slice.injEq, and_true] at hcs
    obtain ⟨rfl, hl0, rfl⟩ := hcs
    exact ⟨some a', cap, rfl, by omega, fun h => by cases h⟩
end
end Go.Proofs.Ytbddjhkoikcgjaa
