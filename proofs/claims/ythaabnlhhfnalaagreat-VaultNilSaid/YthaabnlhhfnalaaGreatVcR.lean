/- VcR: VcR. -/
import Derived.Test.YthaabnlhhfnalaaGreatBgV
import Derived.Test.YthaabnlhhfnalaaGreatRgK
namespace Go.Proofs.YthaabnlhhfnalaaGreat
section
open Go Go.RowKit Go.BigFrame
theorem all_nextV {p : Nat → Prop} {k : Nat} (h : ∀ j, j < k → p j) (hk : p k) : ∀ j, j < k + 1 → p j := fun j hj => by
 rcases Nat.lt_or_eq_of_le (Nat.le_of_lt_succ hj) with h1 | rfl
 ·exact h j h1
 ·exact hk
def joinK (a b : Nat → Int) (k : Nat) : Nat → Int := fun i => if i < k then joinV a b i else a i
theorem joinK_zero (a b : Nat → Int) : joinK a b 0 = a := by funext i; exact if_neg (by omega)
theorem joinK_at (a b : Nat → Int) (k : Nat) : joinK a b k k = a k := if_neg (by omega)
theorem joinK_step (a b : Nat → Int) (k : Nat) : upd (joinK a b k) k (max (a k) (b k)) = joinK a b (k + 1) := by
 funext j
 unfold upd joinK
 by_cases h1 : j = k
 ·subst h1
  rw [if_pos rfl, if_pos (by omega)]
  rfl
 ·rw [if_neg h1]
  by_cases h2 : j < k
  ·rw [if_pos h2, if_pos (by omega)]
  ·rw [if_neg h2, if_neg (by omega)]
theorem joinK_end (a b : Nat → Int) : vcC (joinK a b 8) = vcC (joinV a b) := vcC_congr fun _i hi => if_pos hi
end
end Go.Proofs.YthaabnlhhfnalaaGreat
