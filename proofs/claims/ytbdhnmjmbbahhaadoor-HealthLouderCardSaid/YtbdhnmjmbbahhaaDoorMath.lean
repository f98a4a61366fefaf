/- The order of claims, without any program. -/
import Derived.Test.YtbdhnmjmbbahhaaDoorHealth
namespace Go.Proofs.YtbdhnmjmbbahhaaDoor
open Go Go.RowKit

theorem orI_neg (a b a' b' : Int) (ha : a' = -a) (hb : b' = -b) : orI a' b' = -(orI a b) := by
  unfold orI; by_cases h : a = 0
  · simp [h, ha, hb]
  · rw [if_pos (by omega), if_pos h, ha]
theorem cmpI_neg (a b : Int) : Lib.compareInt b a = -(Lib.compareInt a b) := by unfold Lib.compareInt; split <;> split <;> (try split) <;> omega
theorem cmpC_neg (i1 h1 i2 h2 : Int) : cmpC i2 h2 i1 h1 = -(cmpC i1 h1 i2 h2) := by
  unfold cmpC
  by_cases a : h1 = 4
  · by_cases b : h2 = 4
    · rw [if_pos b, if_pos a, if_pos a, if_pos b]; rfl
    · rw [if_neg b, if_pos a, if_pos a, if_neg b]
  · by_cases b : h2 = 4
    · rw [if_pos b, if_neg a, if_neg a, if_pos b]; rfl
    · rw [if_neg b, if_neg a, if_neg a, if_neg b]
      exact orI_neg _ _ _ _ (cmpI_neg _ _) (cmpI_neg _ _)
theorem cmpI_spec (a b : Int) : (a < b ∧ Lib.compareInt a b = -1) ∨ (a = b ∧ Lib.compareInt a b = 0) ∨ (b < a ∧ Lib.compareInt a b = 1) := by
  unfold Lib.compareInt; split <;> (try split) <;> omega
/-- The order, as three ways. -/
theorem cmpC_spec (i1 h1 i2 h2 : Int) : cmpC i1 h1 i2 h2 = (if h1 = 4 then (if h2 = 4 then 0 else 1) else if h2 = 4 then -1 else if i1 < i2 then -1 else if i2 < i1 then 1 else if h1 < h2 then -1 else if h2 < h1 then 1 else 0) := by
  unfold cmpC
  split
  · rfl
  · split
    · rfl
    · rcases cmpI_spec i1 i2 with ⟨a, b⟩ | ⟨a, b⟩ | ⟨a, b⟩
      · rw [b, if_pos a]; rfl
      · rw [b, if_neg (by omega), if_neg (by omega)]
        show Lib.compareInt h1 h2 = _
        rfl
      · rw [b, if_neg (by omega), if_pos a]; rfl
theorem cmpC_self (i h : Int) : cmpC i h i h = 0 := by rw [cmpC_spec]; repeat' split <;> omega
theorem cmpC_range (i1 h1 i2 h2 : Int) : -1 ≤ cmpC i1 h1 i2 h2 ∧ cmpC i1 h1 i2 h2 ≤ 1 := by rw [cmpC_spec]; repeat' split <;> omega
theorem cmpC_le {i1 h1 i2 h2 : Int} : cmpC i1 h1 i2 h2 ≤ 0 ↔ (h2 = 4 ∨ (h1 ≠ 4 ∧ (i1 < i2 ∨ (i1 = i2 ∧ h1 ≤ h2)))) := by rw [cmpC_spec]; repeat' split <;> omega
theorem cmpC_lt {i1 h1 i2 h2 : Int} : cmpC i1 h1 i2 h2 < 0 ↔ (h1 ≠ 4 ∧ (h2 = 4 ∨ (i1 < i2 ∨ (i1 = i2 ∧ h1 < h2)))) := by rw [cmpC_spec]; repeat' split <;> omega
theorem cmpC_trans {i1 h1 i2 h2 i3 h3 : Int} (a : cmpC i1 h1 i2 h2 ≤ 0) (b : cmpC i2 h2 i3 h3 ≤ 0) : cmpC i1 h1 i3 h3 ≤ 0 := by rw [cmpC_le] at *; omega
theorem cmpC_trans_lt {i1 h1 i2 h2 i3 h3 : Int} (a : cmpC i1 h1 i2 h2 < 0) (b : cmpC i2 h2 i3 h3 ≤ 0) : cmpC i1 h1 i3 h3 < 0 := by rw [cmpC_lt] at *; rw [cmpC_le] at b; omega

end Go.Proofs.YtbdhnmjmbbahhaaDoor
