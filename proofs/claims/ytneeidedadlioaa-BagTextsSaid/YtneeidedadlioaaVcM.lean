/- VcM: VcM. -/
import Derived.Test.YtneeidedadlioaaRgM
namespace Go.Proofs.Ytneeidedadlioaa
section
open Go
def joinV (a b : Nat → Int) : Nat → Int := fun i => max (a i) (b i)
def belowV (a b : Nat → Int) : Bool := decide (tab8 (joinV a b) = tab8 b)
def numB (x : Int) : Bool := decide (0 ≤ x ∧ x ≤ 1000000)
def mayV (a : Nat → Int) : Bool := (tab8 a).all numB
def hasV (a : Nat → Int) (d : En) : Bool := nodeE d.1 && (decide (1 ≤ d.2) && decide (d.2 ≤ a d.1.toNat))
def withV (a : Nat → Int) (d : En) : Nat → Int := if nodeE d.1 = true then upd a d.1.toNat (max (a d.1.toNat) d.2) else a
theorem joinV_comm (a b : Nat → Int) : joinV a b = joinV b a := by funext i; show max _ _ = max _ _; omega
theorem joinV_assoc (a b c : Nat → Int) : joinV (joinV a b) c = joinV a (joinV b c) := by funext i; show max (max _ _) _ = max _ (max _ _); omega
theorem joinV_self (a : Nat → Int) : joinV a a = a := by funext i; show max _ _ = _; omega
theorem belowV_iff {a b : Nat → Int} : belowV a b = true ↔ ∀ i, i < 8 → a i ≤ b i := by
  unfold belowV
  rw [decide_eq_true_iff, tab8_eq]
  constructor
  · intro h i hi
    have h1 : max (a i) (b i) = b i := h i hi
    omega
  · intro h i hi
    have h1 := h i hi
    show max (a i) (b i) = b i
    omega
theorem belowV_left (a b : Nat → Int) : belowV a (joinV a b) = true := belowV_iff.2 fun i _ => by show a i ≤ max (a i) (b i); omega
theorem belowV_right (a b : Nat → Int) : belowV b (joinV a b) = true := belowV_iff.2 fun i _ => by show b i ≤ max (a i) (b i); omega
theorem belowV_lub {a b c : Nat → Int} (h1 : belowV a c = true) (h2 : belowV b c = true) : belowV (joinV a b) c = true := belowV_iff.2 fun i hi => by
  have k1 := belowV_iff.1 h1 i hi
  have k2 := belowV_iff.1 h2 i hi
  show max (a i) (b i) ≤ c i
  omega
theorem belowV_anti (a b : Nat → Int) : (belowV a b && belowV b a) = decide (tab8 a = tab8 b) := by
  rw [Bool.eq_iff_iff, Bool.and_eq_true, belowV_iff, belowV_iff, decide_eq_true_iff, tab8_eq]
  exact ⟨fun h i hi => Int.le_antisymm (h.1 i hi) (h.2 i hi), fun h => ⟨fun i hi => by rw [h i hi]; exact Int.le_refl _, fun i hi => by rw [h i hi]; exact Int.le_refl _⟩⟩
theorem hasV_iff {a : Nat → Int} {d : En} : hasV a d = true ↔ (0 ≤ d.1 ∧ d.1 < 8) ∧ 1 ≤ d.2 ∧ d.2 ≤ a d.1.toNat := by
  unfold hasV nodeE
  rw [Bool.and_eq_true, Bool.and_eq_true, decide_eq_true_iff, decide_eq_true_iff, decide_eq_true_iff]
theorem hasV_join (a b : Nat → Int) (d : En) : hasV (joinV a b) d = (hasV a d || hasV b d) := by
  rw [Bool.eq_iff_iff, Bool.or_eq_true, hasV_iff, hasV_iff, hasV_iff]
  show (_ ∧ _ ∧ d.2 ≤ max (a d.1.toNat) (b d.1.toNat)) ↔ _
  constructor
  · rintro ⟨h1, h2, h3⟩
    rcases (show d.2 ≤ a d.1.toNat ∨ d.2 ≤ b d.1.toNat from by omega) with h | h
    · exact .inl ⟨h1, h2, h⟩
    · exact .inr ⟨h1, h2, h⟩
  · rintro (⟨h1, h2, h3⟩ | ⟨h1, h2, h3⟩)
    · exact ⟨h1, h2, by omega⟩
    · exact ⟨h1, h2, by omega⟩
theorem hasV_below {a b : Nat → Int} {d : En} (h : belowV a b = true) (h1 : hasV a d = true) : hasV b d = true := by
  rw [hasV_iff] at *
  exact ⟨h1.1, h1.2.1, Int.le_trans h1.2.2 (belowV_iff.1 h _ (by omega))⟩
theorem withV_out {a : Nat → Int} {d : En} (h : ¬ (0 ≤ d.1 ∧ d.1 < 8)) : withV a d = a := if_neg fun h1 => h (of_decide_eq_true h1)
theorem withV_in {a : Nat → Int} {d : En} (h : 0 ≤ d.1 ∧ d.1 < 8) : withV a d = upd a d.1.toNat (max (a d.1.toNat) d.2) := if_pos (decide_eq_true h)
theorem withV_at (a : Nat → Int) (d : En) (i : Nat) : (withV a d i = a i ∧ ¬ ((0 ≤ d.1 ∧ d.1 < 8) ∧ i = d.1.toNat)) ∨ (withV a d i = max (a i) d.2 ∧ (0 ≤ d.1 ∧ d.1 < 8) ∧ i = d.1.toNat) := by
  by_cases h : 0 ≤ d.1 ∧ d.1 < 8
  · rw [withV_in h]
    by_cases e : i = d.1.toNat
    · refine .inr ⟨?_, h, e⟩
      rw [e]
      exact if_pos rfl
    · exact .inl ⟨if_neg e, fun h1 => e h1.2⟩
  · rw [withV_out h]
    exact .inl ⟨rfl, fun h1 => h h1.1⟩
theorem belowV_with (a : Nat → Int) (d : En) : belowV a (withV a d) = true := belowV_iff.2 fun i _ => by
  rcases withV_at a d i with ⟨e, _⟩ | ⟨e, _⟩ <;> rw [e] <;> omega
theorem hasV_with {a : Nat → Int} {d : En} (h : 0 ≤ d.1 ∧ d.1 < 8) (h1 : 1 ≤ d.2) : hasV (withV a d) d = true := by
  rw [hasV_iff]
  refine ⟨h, h1, ?_⟩
  rcases withV_at a d d.1.toNat with ⟨_, e⟩ | ⟨e, _⟩
  · exact absurd ⟨h, rfl⟩ e
  · rw [e]; omega
theorem mayV_iff {a : Nat → Int} : mayV a = true ↔ ∀ i, i < 8 → 0 ≤ a i ∧ a i ≤ 1000000 := by
  unfold mayV
  rw [all8]
  exact ⟨fun h i hi => of_decide_eq_true (h i hi), fun h i hi => decide_eq_true (h i hi)⟩
theorem mayV_with {a : Nat → Int} {d : En} (h : mayV a = true) (h1 : d.2 ≤ 1000000) : mayV (withV a d) = true := mayV_iff.2 fun i hi => by
  have := mayV_iff.1 h i hi
  rcases withV_at a d i with ⟨e, _⟩ | ⟨e, _⟩ <;> rw [e] <;> omega
theorem mayV_no {a : Nat → Int} {k : Nat} (hk : k < 8) (h : numB (a k) = false) : mayV a = false := by
  rw [← Bool.not_eq_true]
  intro h1
  unfold mayV at h1
  rw [all8] at h1
  rw [h1 k hk] at h
  cases h
theorem hasV_more {v : Nat → Int} {d e : En} (h : 0 ≤ d.1 ∧ d.1 < 8) (_h1 : 1 ≤ d.2) : hasV (withV v d) e = (hasV v e || decide (e.1 = d.1 ∧ 1 ≤ e.2 ∧ e.2 ≤ d.2)) := by
  rw [Bool.eq_iff_iff, Bool.or_eq_true, hasV_iff, hasV_iff, decide_eq_true_iff]
  constructor
  · rintro ⟨k1, k2, k3⟩
    rcases withV_at v d e.1.toNat with ⟨q, _⟩ | ⟨q, _, q2⟩
    · rw [q] at k3; exact .inl ⟨k1, k2, k3⟩
    · rw [q] at k3
      by_cases k4 : e.2 ≤ v e.1.toNat
      · exact .inl ⟨k1, k2, k4⟩
      · exact .inr ⟨by omega, k2, by omega⟩
  · rintro (⟨k1, k2, k3⟩ | ⟨k1, k2, k3⟩)
    · refine ⟨k1, k2, ?_⟩
      rcases withV_at v d e.1.toNat with ⟨q, _⟩ | ⟨q, _, _⟩ <;> rw [q] <;> omega
    · refine ⟨by omega, k2, ?_⟩
      rcases withV_at v d e.1.toNat with ⟨_, q⟩ | ⟨q, _, _⟩
      · exact absurd ⟨h, by rw [k1]⟩ q
      · rw [q]; omega
theorem withV_again (v : Nat → Int) (d : En) : withV (withV v d) d = withV v d := by
  funext i
  rcases withV_at (withV v d) d i with ⟨q, _⟩ | ⟨q, q1, q2⟩
  · exact q
  · rw [q]
    rcases withV_at v d i with ⟨_, r⟩ | ⟨r, _⟩
    · exact absurd ⟨q1, q2⟩ r
    · rw [r]; omega
theorem withV_has {v : Nat → Int} {d : En} (h : 0 ≤ d.1 ∧ d.1 < 8) (h1 : 1 ≤ d.2) : decide (tab8 (withV v d) = tab8 v) = hasV v d := by
  rw [Bool.eq_iff_iff, decide_eq_true_iff, tab8_eq, hasV_iff]
  constructor
  · intro k
    refine ⟨h, h1, ?_⟩
    have k1 := k d.1.toNat (by omega)
    rcases withV_at v d d.1.toNat with ⟨_, q⟩ | ⟨q, _⟩
    · exact absurd ⟨h, rfl⟩ q
    · omega
  · rintro ⟨_, _, k⟩ i _
    rcases withV_at v d i with ⟨q, _⟩ | ⟨q, _, q2⟩
    · exact q
    · rw [q, q2]
      omega
theorem ord_ways (a b c : En) : (0 < cmpE a b) ∨ (cmpE a b = 0 ∧ 0 < cmpE b c) ∨ (cmpE a b < 0 ∧ 0 < cmpE b c) ∨ (cmpE a b = 0 ∧ ¬ 0 < cmpE b c ∧ cmpE a c ≤ 0) ∨ (cmpE a b < 0 ∧ ¬ 0 < cmpE b c ∧ cmpE a c < 0) := by
  rcases Int.lt_trichotomy (cmpE a b) 0 with h | h | h
  · by_cases k : 0 < cmpE b c
    · exact .inr (.inr (.inl ⟨h, k⟩))
    · exact .inr (.inr (.inr (.inr ⟨h, k, cmpE_cmp.lt h (show cmpE b c ≤ 0 by omega)⟩)))
  · by_cases k : 0 < cmpE b c
    · exact .inr (.inl ⟨h, k⟩)
    · exact .inr (.inr (.inr (.inl ⟨h, k, cmpE_cmp.trans (show cmpE a b ≤ 0 by omega) (show cmpE b c ≤ 0 by omega)⟩)))
  · exact .inl h
end
end Go.Proofs.Ytneeidedadlioaa
