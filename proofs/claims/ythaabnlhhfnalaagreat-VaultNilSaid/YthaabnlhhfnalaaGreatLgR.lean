/- LgR: LgR. -/
import Derived.Test.YthaabnlhhfnalaaGreatLgV
import Derived.Test.YthaabnlhhfnalaaGreatBgE
import Derived.Test.YthaabnlhhfnalaaGreatRgK
import Derived.Test.YthaabnlhhfnalaaGreatVcR
namespace Go.Proofs.YthaabnlhhfnalaaGreat
section
open Go Go.RowKit Go.BigFrame
theorem rmay_ways {a : Bg} {k : Nat} {y : Vl} (hk1 : k + 1 ≤ a.v.length) : hasV a.k y.1 = false ∨ (hasV a.k y.1 = true ∧ 64 < y.2.size) ∨ (hasV a.k y.1 = true ∧ ¬ 64 < y.2.size ∧ k = 0) ∨ (hasV a.k y.1 = true ∧ ¬ 64 < y.2.size ∧ ∃ j u, k = j + 1 ∧ a.v[j]? = some u ∧ cmpE u.1 y.1 < 0) ∨ (hasV a.k y.1 = true ∧ ¬ 64 < y.2.size ∧ ∃ j u, k = j + 1 ∧ a.v[j]? = some u ∧ ¬ cmpE u.1 y.1 < 0) := by
 cases hasV a.k y.1
 ·exact .inl rfl
 ·by_cases h : 64 < y.2.size
  ·exact .inr (.inl ⟨rfl, h⟩)
  ·cases k with
   | zero => exact .inr (.inr (.inl ⟨rfl, h, rfl⟩))
   | succ j =>
    have hu : a.v[j]? = some a.v[j] := List.getElem?_eq_getElem (by omega)
    by_cases h2 : cmpE a.v[j].1 y.1 < 0
    ·exact .inr (.inr (.inr (.inl ⟨rfl, h, j, _, rfl, hu, h2⟩)))
    ·exact .inr (.inr (.inr (.inr ⟨rfl, h, j, _, rfl, hu, h2⟩)))
end
end Go.Proofs.YthaabnlhhfnalaaGreat
