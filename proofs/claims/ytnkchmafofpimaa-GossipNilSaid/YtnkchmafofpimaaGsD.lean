/- What the laws' arguments are: a call, a row of calls, a row of draws. -/
import Derived.Test.YtnkchmafofpimaaGsQ
namespace Go.Proofs.Ytnkchmafofpimaa
open Go Go.ChangeShapes Go.WideShapes Go.ChangeAt Go.RowKit Go.Joins Go.BigFrame

set_option maxRecDepth 100000 in
theorem open_callG {H : Type} {enc : TypeId × Value → H} {w : World} {base : Nat} {spare : Nat → Bool} {held : Bool} {r : Reach} {b0 : Nat} {v : Value} {d : DataW H} {p : List MemPlace} (hv : Value.okWide Try.prog w r b0 40 v) (h : DataW.Trod enc Try.prog w base spare held 40 v d p) :
    ∃ y : CallG, v = .agg (CallG.enc y).toArray ∧ CallGQ w y := by
  obtain ⟨cs, rfl, _⟩ := okWide_struct Try.underlying40 hv
  obtain ⟨fuel, hf⟩ := h
  obtain ⟨y, hc, hs⟩ := readG.read hf
  have hc : (Value.agg cs).cells.toList = y.enc := hc
  refine ⟨y, ?_, hs⟩
  congr 1
  apply Array.toList_inj.1
  simpa [Value.cells] using hc
set_option maxRecDepth 100000 in
theorem open_callsG {H : Type} {enc : TypeId × Value → H} {w : World} {base : Nat} {spare : Nat → Bool} {held : Bool} {r : Reach} {b0 : Nat} {v : Value} {d : DataW H} {p : List MemPlace} (hv : Value.okWide Try.prog w r b0 22 v) (h : DataW.Trod enc Try.prog w base spare held 22 v d p) :
    ∃ l : List CallG, (∀ W H, (oldT w).p W H → RowAt elemG W v l) ∧ ∀ y ∈ l, CallGQ w y := by
  obtain ⟨l, hl, hq, _⟩ := open_srcQ (E := elemG) readG hv h
  exact ⟨l, fun _ _ hs => OldA.row hs hl.1, hq⟩
set_option maxRecDepth 100000 in
theorem readD : ReadQ elemD fun _ x => 0 ≤ x ∧ x < 18446744073709551616 where
  cells := by kernel_rfl
  bytes := by kernel_rfl
  read h := by
    obtain ⟨n, e, _, w4⟩ := DataW.trod_int Try.underlying38 h
    have w4 : IntKind.u64.min ≤ n ∧ n ≤ IntKind.u64.max := by simpa [Lit.wf] using w4
    have w4 : 0 ≤ n ∧ n ≤ 18446744073709551615 := w4
    exact ⟨n, e, w4.1, by omega⟩
set_option maxRecDepth 100000 in
theorem open_draws {H : Type} {enc : TypeId × Value → H} {w : World} {base : Nat} {spare : Nat → Bool} {held : Bool} {r : Reach} {b0 : Nat} {v : Value} {d : DataW H} {p : List MemPlace} (hv : Value.okWide Try.prog w r b0 54 v) (h : DataW.Trod enc Try.prog w base spare held 54 v d p) :
    ∃ l : List Int, (∀ W H, (oldT w).p W H → RowAt elemD W v l) ∧ ∀ y ∈ l, 0 ≤ y ∧ y < 18446744073709551616 := by
  obtain ⟨l, hl, hq, _⟩ := open_srcQ (E := elemD) readD hv h
  exact ⟨l, fun _ _ hs => OldA.row hs hl.1, hq⟩
def callZero : Value := .agg (CallG.enc default).toArray
def callZeroD {H : Type} : DataW H := .agg [.lit (.int .i64 0), .lit (.int .i64 0), ringZeroD, .nil, .lit (.int .u64 0)]
end Go.Proofs.Ytnkchmafofpimaa
