/- Entries: whose a part is; without any program. -/
import Derived.Test.YtonlnhcjfdeipaaProg
import Derived.Lib.Small
namespace Go.Proofs.Ytonlnhcjfdeipaa
open Go

def cmpI (a b : Int) : Int := if a < b then -1 else if b < a then 1 else 0
def orI (a b : Int) : Int := if a ≠ 0 then a else b
abbrev En : Type := Int × Int
def eV (x : En) : Value := .agg #[.int .i64 x.1, .int .i64 x.2]
def nodeE (n : Int) : Bool := decide (0 ≤ n ∧ n < 8)
def cmpE (a b : En) : Int := orI (cmpI a.1 b.1) (cmpI a.2 b.2)
def mayE (x : En) : Bool := decide ((x.1 = 0 ∧ x.2 = 0) ∨ (1 ≤ x.1 ∧ x.1 ≤ 1000000 ∧ 0 ≤ x.2 ∧ x.2 < 8))
def joinE (a b : En) : En := if 0 < cmpE b a then b else a
def flipE (x : En) (to : Int) : En × Int := if mayE x = true ∧ nodeE to = true then (if x.1 = 1000000 then ((0, 0), 6) else ((x.1 + 1, to), 0)) else ((0, 0), 1)

theorem cmpI_spec (a b : Int) : (a < b ∧ cmpI a b = -1) ∨ (a = b ∧ cmpI a b = 0) ∨ (b < a ∧ cmpI a b = 1) := by
  unfold cmpI
  split
  · exact .inl ⟨by assumption, rfl⟩
  · split
    · exact .inr (.inr ⟨by assumption, rfl⟩)
    · exact .inr (.inl ⟨by omega, rfl⟩)
theorem cmpE_spec (a b : En) : ((a.1 < b.1 ∨ (a.1 = b.1 ∧ a.2 < b.2)) ∧ cmpE a b = -1) ∨ (a = b ∧ cmpE a b = 0) ∨ ((b.1 < a.1 ∨ (a.1 = b.1 ∧ b.2 < a.2)) ∧ cmpE a b = 1) := by
  obtain ⟨a1, a2⟩ := a
  obtain ⟨b1, b2⟩ := b
  unfold cmpE orI
  rcases cmpI_spec a1 b1 with ⟨h1, h2⟩ | ⟨h1, h2⟩ | ⟨h1, h2⟩
  · exact .inl ⟨.inl h1, by dsimp only; rw [h2]; rfl⟩
  · rcases cmpI_spec a2 b2 with ⟨h3, h4⟩ | ⟨h3, h4⟩ | ⟨h3, h4⟩
    · exact .inl ⟨.inr ⟨h1, h3⟩, by dsimp only; rw [h2, h4]; rfl⟩
    · exact .inr (.inl ⟨by rw [h1, h3], by dsimp only; rw [h2, h4]; rfl⟩)
    · exact .inr (.inr ⟨.inr ⟨h1, h3⟩, by dsimp only; rw [h2, h4]; rfl⟩)
  · exact .inr (.inr ⟨.inl h1, by dsimp only; rw [h2]; rfl⟩)
theorem cmpE_neg (a b : En) : cmpE a b = -cmpE b a := by
  rcases cmpE_spec a b with ⟨h, e⟩ | ⟨h, e⟩ | ⟨h, e⟩ <;> rcases cmpE_spec b a with ⟨h', e'⟩ | ⟨h', e'⟩ | ⟨h', e'⟩ <;> rw [e, e'] <;> first | rfl | (subst h; omega) | (subst h'; omega) | omega
theorem cmpE_zero (a b : En) : cmpE a b = 0 ↔ a = b := by
  rcases cmpE_spec a b with ⟨h, e⟩ | ⟨h, e⟩ | ⟨h, e⟩
  · constructor
    · intro h1; omega
    · intro h1; subst h1; omega
  · exact ⟨fun _ => h, fun _ => e⟩
  · constructor
    · intro h1; omega
    · intro h1; subst h1; omega
theorem cmpE_le (a b : En) : cmpE a b ≤ 0 ↔ (a.1 < b.1 ∨ (a.1 = b.1 ∧ a.2 ≤ b.2)) := by
  rcases cmpE_spec a b with ⟨h, e⟩ | ⟨h, e⟩ | ⟨h, e⟩
  · rw [e]; omega
  · subst h; rw [e]; omega
  · rw [e]; omega
theorem en_ext {a b : En} (h1 : a.1 = b.1) (h2 : a.2 = b.2) : a = b := Prod.ext h1 h2
theorem joinE_le (a b : En) : cmpE a (joinE a b) ≤ 0 ∧ cmpE b (joinE a b) ≤ 0 := by
  unfold joinE
  have hn := cmpE_neg a b
  split
  · exact ⟨by omega, by rw [(cmpE_zero b b).2 rfl]; omega⟩
  · exact ⟨by rw [(cmpE_zero a a).2 rfl]; omega, by omega⟩
theorem joinE_or (a b : En) : joinE a b = a ∨ joinE a b = b := by
  unfold joinE
  split
  · exact .inr rfl
  · exact .inl rfl
theorem joinE_spec (a b : En) : (cmpE b a ≤ 0 ∧ joinE a b = a) ∨ (cmpE a b ≤ 0 ∧ joinE a b = b) := by
  unfold joinE
  have hn := cmpE_neg a b
  split
  · exact .inr ⟨by omega, rfl⟩
  · exact .inl ⟨by omega, rfl⟩
theorem joinE_comm (a b : En) : joinE a b = joinE b a := by
  rcases joinE_spec a b with ⟨h, e⟩ | ⟨h, e⟩ <;> rcases joinE_spec b a with ⟨h', e'⟩ | ⟨h', e'⟩ <;> rw [e, e']
  all_goals
    rw [cmpE_le] at h h'
    exact en_ext (by omega) (by omega)
theorem joinE_assoc (a b c : En) : joinE (joinE a b) c = joinE a (joinE b c) := by
  rcases joinE_spec a b with ⟨h1, e1⟩ | ⟨h1, e1⟩ <;> rcases joinE_spec b c with ⟨h2, e2⟩ | ⟨h2, e2⟩ <;> rw [e1, e2]
  · rw [e1]
    rcases joinE_spec a c with ⟨h3, e3⟩ | ⟨h3, e3⟩ <;> rw [e3]
    rw [cmpE_le] at h1 h2 h3
    exact en_ext (by omega) (by omega)
  · rw [e1]
  · rcases joinE_spec a c with ⟨h3, e3⟩ | ⟨h3, e3⟩ <;> rw [e3]
    rw [cmpE_le] at h1 h2 h3
    exact en_ext (by omega) (by omega)
theorem joinE_self (a : En) : joinE a a = a := by rcases joinE_or a a with h | h <;> exact h
theorem flipE_ok {x : En} {to : Int} (h : (flipE x to).2 = 0) : flipE x to = ((x.1 + 1, to), 0) ∧ mayE x = true ∧ nodeE to = true ∧ x.1 ≠ 1000000 := by
  unfold flipE at h ⊢
  split at h
  · rename_i h1
    rw [if_pos h1]
    split at h
    · simp at h
    · rename_i h2
      rw [if_neg h2]
      exact ⟨rfl, h1.1, h1.2, h2⟩
  · simp at h
theorem mayE_next {x : En} {to : Int} (h : mayE x = true) (ht : nodeE to = true) (hx : x.1 ≠ 1000000) : mayE (x.1 + 1, to) = true := by
  have h1 := of_decide_eq_true h
  have h2 := of_decide_eq_true ht
  exact decide_eq_true (.inr ⟨by dsimp only; omega, by dsimp only; omega, h2.1, h2.2⟩)
theorem cmpE_next (x : En) (to : Int) : cmpE (x.1 + 1, to) x = 1 := by
  rcases cmpE_spec (x.1 + 1, to) x with ⟨h, e⟩ | ⟨h, e⟩ | ⟨h, e⟩
  · dsimp only at h; omega
  · have := congrArg Prod.fst h; dsimp only at this; omega
  · exact e
end Go.Proofs.Ytonlnhcjfdeipaa
