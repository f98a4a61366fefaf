/- What the laws' arguments are: a deed, a call, a row of calls; how long their rows are. -/
import Derived.Test.YtnahhbpaijfpbaaLgC
import Derived.Test.YtnahhbpaijfpbaaLgH
namespace Go.Proofs.Ytnahhbpaijfpbaa
open Go Go.ChangeShapes Go.WideShapes Go.ChangeAt Go.RowKit Go.Joins Go.BigFrame

section
variable {H : Type} {enc : TypeId × Value → H} {w : World} {base : Nat} {spare : Nat → Bool} {held : Bool}
theorem reach_fit {ts : List TypeId} {ds : List (DataW H)} {j : Nat} {t : TypeId} {d : DataW H} (hsz : (DataW.weightsEach Try.prog ts ds).all (· ≤ reachBytes) = true) (ht : ts[j]? = some t) (hd : ds[j]? = some d) : ∀ n ∈ DataW.weights Try.prog t d, n ≤ 140737488351232 := fun n hn => of_decide_eq_true (List.all_eq_true.1 hsz n (DataW.weights_mem_each ht hd n hn))
set_option maxRecDepth 100000 in
theorem open_deed {r : Reach} {b0 : Nat} {v : Value} {d : DataW H} {p : List MemPlace} (hv : Value.okWide Try.prog w r b0 43 v) (h : DataW.Trod enc Try.prog w base spare held 43 v d p) : ∃ y : Dx, v = ddV y.d (.slice y.vp y.vn y.vc) (.slice y.rp y.rn y.rc) ∧ DdQ w y ∧ DdF 43 d y := by
  obtain ⟨cs, rfl, _⟩ := okWide_struct Try.underlying43 hv
  obtain ⟨fuel, hf⟩ := h
  obtain ⟨y, hc, hq, hF⟩ := read_deed hf
  have hc : (Value.agg cs).cells.toList = y.enc := hc
  refine ⟨y, ?_, hq, hF⟩
  congr 1
  apply Array.toList_inj.1
  have e : cs.toList = y.enc := by simpa [Value.cells] using hc
  rw [e]
  rfl
theorem reach_deed {ts : List TypeId} {ds : List (DataW H)} {j : Nat} {d : DataW H} {y : Dx} (hsz : (DataW.weightsEach Try.prog ts ds).all (· ≤ reachBytes) = true) (ht : ts[j]? = some 43) (hd : ds[j]? = some d) (h : DdF 43 d y) : y.d.b.v.length ≤ 4398046510976 := by
  have := h _ (reach_fit hsz ht hd)
  omega
set_option maxRecDepth 100000 in
theorem open_callL {r : Reach} {b0 : Nat} {v : Value} {d : DataW H} {p : List MemPlace} (hv : Value.okWide Try.prog w r b0 45 v) (h : DataW.Trod enc Try.prog w base spare held 45 v d p) : ∃ y : CallL, v = .agg (CallL.enc y).toArray ∧ DdQ w y.x ∧ DdF 45 d y.x := by
  obtain ⟨cs, rfl, _⟩ := okWide_struct Try.underlying45 hv
  obtain ⟨fuel, hf⟩ := h
  obtain ⟨y, hc, hq, hF⟩ := read_callL hf
  have hc : (Value.agg cs).cells.toList = y.enc := hc
  refine ⟨y, ?_, hq, hF⟩
  congr 1
  apply Array.toList_inj.1
  simpa [Value.cells] using hc
theorem reach_callL {ts : List TypeId} {ds : List (DataW H)} {j : Nat} {d : DataW H} {y : CallL} (hsz : (DataW.weightsEach Try.prog ts ds).all (· ≤ reachBytes) = true) (ht : ts[j]? = some 45) (hd : ds[j]? = some d) (h : DdF 45 d y.x) : y.x.d.b.v.length ≤ 4398046510976 := by
  have := h _ (reach_fit hsz ht hd)
  omega
set_option maxRecDepth 100000 in
theorem open_callsL {r : Reach} {b0 : Nat} {v : Value} {d : DataW H} {p : List MemPlace} (hv : Value.okWide Try.prog w r b0 22 v) (h : DataW.Trod enc Try.prog w base spare held 22 v d p) :
    ∃ l : List CallL, (∀ W H, (oldT w).p W H → RowAt elemL W v l) ∧ (l = [] ∨ ∃ es sp, d = .slice es sp ∧ es.length = l.length ∧ ∀ (i : Nat) (y : CallL), l[i]? = some y → ∃ e, es[i]? = some e ∧ CallLQ w e y) := by
  obtain ⟨a, len, cap, rfl⟩ := okWide_slice Try.underlying22 hv
  obtain ⟨fuel, hf⟩ := h
  obtain ⟨v', l, hcs, hl, hm⟩ := open_elemsP (E := elemL) readL hf
  obtain rfl : v' = .slice a len cap := by
    simp [Value.cells] at hcs
    exact hcs.symm
  exact ⟨l, fun _ _ hs => OldA.row hs hl.1, hm⟩
theorem reach_callsL {ts : List TypeId} {ds : List (DataW H)} {j : Nat} {d : DataW H} {l : List CallL} (hsz : (DataW.weightsEach Try.prog ts ds).all (· ≤ reachBytes) = true) (ht : ts[j]? = some 22) (hd : ds[j]? = some d) (h : l = [] ∨ ∃ es sp, d = .slice es sp ∧ es.length = l.length ∧ ∀ (i : Nat) (y : CallL), l[i]? = some y → ∃ e, es[i]? = some e ∧ CallLQ w e y) : ∀ y ∈ l, DdQ w y.x ∧ y.x.d.b.v.length ≤ 4398046510976 := fun y hy => by
  rcases h with rfl | ⟨es, sp, rfl, _, he⟩
  · cases hy
  · obtain ⟨i, hi⟩ := List.mem_iff_getElem?.1 hy
    obtain ⟨e, h1, h2, h3⟩ := he i y hi
    have := h3 _ fun n hn => reach_fit hsz ht hd n (weights_in Try.underlying22 h1 hn)
    exact ⟨h2, by omega⟩
end
def deedZero : Value := ddV noD (.slice none 0 0) (.slice none 0 0)
def deedZeroD {H : Type} : DataW H := .agg [.lit (.int .i64 0), .lit (.int .i64 0), .lit (.string []), bagD, ringZeroD, .lit (.int .i64 0)]
def callZero : Value := .agg (CallL.enc default).toArray
def callZeroD {H : Type} : DataW H := .agg [.lit (.int .i64 0), .lit (.int .i64 0), deedZeroD]
end Go.Proofs.Ytnahhbpaijfpbaa
