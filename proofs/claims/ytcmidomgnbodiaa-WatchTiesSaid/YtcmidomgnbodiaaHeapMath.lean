/- Heaps as lists, without any program: what one step of sifting up or down keeps. -/
import Derived.WalkKit
namespace Go.Proofs.Ytcmidomgnbodiaa
open Go Go.RowKit

section
variable {α : Type}
def swapL (xs : List α) (i j : Nat) : List α :=
  match xs[i]?, xs[j]? with
  | some x, some y => (xs.set i y).set j x
  | _, _ => xs
theorem swapL_some {xs : List α} {i j : Nat} {x y : α} (hi : xs[i]? = some x) (hj : xs[j]? = some y) : swapL xs i j = (xs.set i y).set j x := by simp [swapL, hi, hj]
theorem swapL_len (xs : List α) (i j : Nat) : (swapL xs i j).length = xs.length := by unfold swapL; split <;> simp
theorem swapL_at (xs : List α) {i j : Nat} {x y : α} (hi : xs[i]? = some x) (hj : xs[j]? = some y) (k : Nat) : (swapL xs i j)[k]? = if k = j then some x else if k = i then some y else xs[k]? := by
  have h1 := (List.getElem?_eq_some_iff.1 hi).1
  have h2 := (List.getElem?_eq_some_iff.1 hj).1
  rw [swapL_some hi hj]
  by_cases hkj : k = j
  · subst hkj; simp [h2]
  · rw [if_neg hkj, List.getElem?_set_ne (Ne.symm hkj)]
    by_cases hki : k = i
    · subst hki; simp [h1]
    · rw [if_neg hki, List.getElem?_set_ne (Ne.symm hki)]
theorem swapL_perm (xs : List α) (i j : Nat) : (swapL xs i j).Perm xs := by
  unfold swapL
  split
  · rename_i x y hi hj
    by_cases e : i = j
    · subst e
      rw [hi] at hj
      obtain rfl := Option.some.inj hj
      obtain ⟨h1, rfl⟩ := List.getElem?_eq_some_iff.1 hi
      simp
    · obtain ⟨h1, rfl⟩ := List.getElem?_eq_some_iff.1 hi
      obtain ⟨h2, rfl⟩ := List.getElem?_eq_some_iff.1 hj
      exact List.set_set_perm h1 h2
  · exact List.Perm.refl _

/-- The order of a heap: 'less' as the program asks it. -/
structure Ordered (less : α → α → Bool) : Prop where
  asym : ∀ x y, less x y = true → less y x = false
  trans : ∀ x y z, less y x = false → less z y = false → less z x = false

variable {less : α → α → Bool}
/-- x may stand above y. -/
def Le (less : α → α → Bool) (x y : α) : Prop := less y x = false
theorem Ordered.le_trans (h : Ordered less) {x y z : α} (a : Le less x y) (b : Le less y z) : Le less x z := h.trans x y z a b
theorem Ordered.le_of (h : Ordered less) {x y : α} (a : less x y = true) : Le less x y := h.asym x y a

def par (k : Nat) : Nat := (k - 1) / 2
/-- Among the first n elements each stands below its parent, where the pair meets c. -/
def Holds (less : α → α → Bool) (n : Nat) (c : Nat → Prop) (xs : List α) : Prop := ∀ k, 0 < k → k < n → c k → ∀ x y, xs[par k]? = some x → xs[k]? = some y → Le less x y
def IsHeap (less : α → α → Bool) (n : Nat) (xs : List α) : Prop := Holds less n (fun _ => True) xs

/-- Sifting up: all is in order but at j. -/
structure UpInv (less : α → α → Bool) (n : Nat) (xs : List α) (j : Nat) : Prop where
  lt : j < n
  le : n ≤ xs.length
  a : Holds less n (fun k => k ≠ j) xs
  b : 0 < j → ∀ c, 0 < c → c < n → par c = j → ∀ x y, xs[par j]? = some x → xs[c]? = some y → Le less x y
theorem UpInv.done {n : Nat} {xs : List α} {j : Nat} (h : UpInv less n xs j) (h0 : j = 0 ∨ ∃ x y, xs[par j]? = some x ∧ xs[j]? = some y ∧ less y x = false) : IsHeap less n xs := by
  intro k hk hkn _ x y hx hy
  by_cases e : k = j
  · subst e
    rcases h0 with h0 | ⟨x', y', hx', hy', hl⟩
    · omega
    · rw [hx] at hx'; rw [hy] at hy'
      obtain rfl := Option.some.inj hx'
      obtain rfl := Option.some.inj hy'
      exact hl
  · exact h.a k hk hkn e x y hx hy
theorem UpInv.step (ho : Ordered less) {n : Nat} {xs : List α} {j : Nat} (h : UpInv less n xs j) (hj : 0 < j) {x y : α} (hx : xs[par j]? = some x) (hy : xs[j]? = some y) (hl : less y x = true) : UpInv less n (swapL xs (par j) j) (par j) := by
  have hpj : par j < j := by unfold par; omega
  have hat := swapL_at xs hx hy
  have hle := h.le
  have hlt := h.lt
  refine ⟨by omega, by rw [swapL_len]; exact h.le, ?_, ?_⟩
  · intro k hk hkn hne u v hu hv
    have hpk : par k < k := by unfold par; omega
    rw [hat] at hu hv
    by_cases e1 : k = j
    · subst e1
      rw [if_neg (by omega), if_pos rfl] at hu
      rw [if_pos rfl] at hv
      obtain rfl := Option.some.inj hu
      obtain rfl := Option.some.inj hv
      exact ho.le_of hl
    · rw [if_neg e1, if_neg hne] at hv
      by_cases e2 : par k = j
      · rw [if_pos e2] at hu
        obtain rfl := Option.some.inj hu
        exact h.b hj k hk hkn e2 _ _ hx hv
      · rw [if_neg e2] at hu
        by_cases e3 : par k = par j
        · rw [if_pos e3] at hu
          obtain rfl := Option.some.inj hu
          exact ho.le_trans (ho.le_of hl) (h.a k hk hkn e1 _ _ (by rw [e3]; exact hx) hv)
        · rw [if_neg e3] at hu
          exact h.a k hk hkn e1 _ _ hu hv
  · intro hp c hc hcn hpc u v hu hv
    have hpp : par (par j) < par j := by unfold par; unfold par at hp; omega
    rw [hat, if_neg (by omega), if_neg (by omega)] at hu
    rw [hat] at hv
    by_cases e1 : c = j
    · rw [if_pos e1] at hv
      obtain rfl := Option.some.inj hv
      exact h.a (par j) hp (by omega) (by omega) _ _ hu hx
    · have hpc' : par c < c := by unfold par; omega
      rw [if_neg e1, if_neg (by omega)] at hv
      have h1 : Le less u x := h.a (par j) hp (by omega) (by omega) _ _ hu hx
      exact ho.le_trans h1 (h.a c hc hcn e1 _ _ (by rw [hpc]; exact hx) hv)

/-- Sifting down from i0: all is in order but at i and, while nothing has moved, above it; pairs whose parent lies before lo don't count. -/
structure DownInv (less : α → α → Bool) (lo n i0 : Nat) (xs : List α) (i : Nat) : Prop where
  le : n ≤ xs.length
  low : lo ≤ i0
  ge : i0 ≤ i
  a : Holds less n (fun k => lo ≤ par k ∧ par k ≠ i ∧ k ≠ i) xs
  b : 0 < i → lo ≤ par i → ∀ c, 0 < c → c < n → par c = i → ∀ x y, xs[par i]? = some x → xs[c]? = some y → Le less x y
  c : i ≠ i0 → lo ≤ par i → ∀ x y, xs[par i]? = some x → xs[i]? = some y → Le less x y
/-- Children of i in order: nothing is left to do below. -/
def Below2 (less : α → α → Bool) (n : Nat) (xs : List α) (i : Nat) : Prop := ∀ k, 0 < k → k < n → par k = i → ∀ x y, xs[i]? = some x → xs[k]? = some y → Le less x y
theorem DownInv.done {lo n i0 : Nat} {xs : List α} {i : Nat} (h : DownInv less lo n i0 xs i) (hb : Below2 less n xs i) : Holds less n (fun k => lo ≤ par k ∧ (i = i0 → k ≠ i0)) xs := by
  intro k hk hkn hc x y hx hy
  by_cases e1 : par k = i
  · exact hb k hk hkn e1 x y (by rw [← e1]; exact hx) hy
  · by_cases e2 : k = i
    · subst e2
      exact h.c (fun e => hc.2 e e) hc.1 x y hx hy
    · exact h.a k hk hkn ⟨hc.1, e1, e2⟩ x y hx hy
theorem par_left (i : Nat) : par (2 * i + 1) = i := by unfold par; omega
theorem par_right (i : Nat) : par (2 * i + 2) = i := by unfold par; omega
theorem par_eq {k i : Nat} (hk : 0 < k) (h : par k = i) : k = 2 * i + 1 ∨ k = 2 * i + 2 := by unfold par at h; omega
/-- One step down to the child j that is not above its brother. -/
theorem DownInv.step (ho : Ordered less) {lo n i0 : Nat} {xs : List α} {i j : Nat} (h : DownInv less lo n i0 xs i) (hj0 : 0 < j) (hjn : j < n) (hpj : par j = i) {x y : α} (hx : xs[i]? = some x) (hy : xs[j]? = some y) (hl : less y x = true)
    (hbro : ∀ k, 0 < k → k < n → par k = i → ∀ z, xs[k]? = some z → Le less y z) : DownInv less lo n i0 (swapL xs i j) j := by
  have hij : i < j := by unfold par at hpj; omega
  have hat := swapL_at xs hx hy
  refine ⟨by rw [swapL_len]; exact h.le, h.low, by have := h.ge; omega, ?_, ?_, ?_⟩
  · rintro k hk hkn ⟨hlo, hne1, hne2⟩ u v hu hv
    have hpk : par k < k := by unfold par; omega
    rw [hat, if_neg hne1] at hu
    rw [hat, if_neg hne2] at hv
    by_cases e1 : par k = i
    · rw [if_pos e1] at hu
      obtain rfl := Option.some.inj hu
      rw [if_neg (by omega)] at hv
      exact hbro k hk hkn e1 _ hv
    · rw [if_neg e1] at hu
      by_cases e2 : k = i
      · subst e2
        rw [if_pos rfl] at hv
        obtain rfl := Option.some.inj hv
        exact h.b hk hlo j hj0 hjn hpj _ _ hu hy
      · rw [if_neg e2] at hv
        exact h.a k hk hkn ⟨hlo, e1, e2⟩ _ _ hu hv
  · intro _ hlo c hc hcn hpc u v hu hv
    have hpc' : par c < c := by unfold par; omega
    rw [hpj, hat, if_neg (by omega), if_pos rfl] at hu
    rw [hat, if_neg (by omega), if_neg (by omega)] at hv
    obtain rfl := Option.some.inj hu
    rw [hpj] at hlo
    exact h.a c hc hcn ⟨by omega, by omega, by omega⟩ _ _ (by rw [hpc]; exact hy) hv
  · intro _ _ u v hu hv
    rw [hpj, hat, if_neg (by omega), if_pos rfl] at hu
    rw [hat, if_pos rfl] at hv
    obtain rfl := Option.some.inj hu
    obtain rfl := Option.some.inj hv
    exact ho.le_of hl

/-- The first one stands above all. -/
theorem IsHeap.first (ho : Ordered less) {n : Nat} {xs : List α} (h : IsHeap less n xs) (hn : n ≤ xs.length) {x : α} (hx : xs[0]? = some x) : ∀ k y, k < n → xs[k]? = some y → Le less x y := by
  intro k
  induction k using Nat.strongRecOn with
  | _ k ih =>
    intro y hk hy
    by_cases h0 : k = 0
    · subst h0
      rw [hx] at hy
      obtain rfl := Option.some.inj hy
      cases hxx : less x x with
      | false => exact hxx
      | true => exact ho.asym x x hxx
    · have hp : par k < k := by unfold par; omega
      have hpl : par k < xs.length := by omega
      have hz : xs[par k]? = some xs[par k] := List.getElem?_eq_getElem hpl
      exact ho.le_trans (ih (par k) hp _ (by omega) hz) (h k (by omega) hk trivial _ _ hz hy)
end
end Go.Proofs.Ytcmidomgnbodiaa
