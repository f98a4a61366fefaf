/- HealthLouder for all claims: the louder one of two by the order of claims. -/
import Derived.Test.YtbdhnmjmbbahhaaDoorLouder
namespace Go.Proofs.YtbdhnmjmbbahhaaDoor
open Go Go.RowKit

abbrev C3 := Int × Int × Int
/-- The louder one of two. -/
def louP (a b : C3) : C3 := if 0 < cmpC b.2.1 b.2.2 a.2.1 a.2.2 then b else a
def cmpP (a b : C3) : Int := cmpC a.2.1 a.2.2 b.2.1 b.2.2
abbrev agP (a : C3) : Value := .agg #[.int .i64 a.1, .int .i64 a.2.1, .int .i64 a.2.2]
theorem cmpP_neg (a b : C3) : cmpP b a = -(cmpP a b) := cmpC_neg _ _ _ _
theorem cmpP_trans {a b c : C3} (h : cmpP a b ≤ 0) (k : cmpP b c ≤ 0) : cmpP a c ≤ 0 := cmpC_trans h k
theorem louP_cases (a b : C3) : (louP a b = b ∧ 0 < cmpP b a) ∨ (louP a b = a ∧ cmpP b a ≤ 0) := by
  unfold louP
  by_cases h : 0 < cmpC b.2.1 b.2.2 a.2.1 a.2.2
  · exact Or.inl ⟨by rw [if_pos h], h⟩
  · exact Or.inr ⟨by rw [if_neg h], Int.not_lt.1 h⟩
theorem louP_gives (a b : C3) (w : World) : Gives Tryd.prog 15 #[agP a, agP b] w (agP (louP a b)) := by
  rcases louP_cases a b with ⟨e, h⟩ | ⟨e, h⟩
  · rw [e]; exact louder_b a.1 a.2.1 a.2.2 b.1 b.2.1 b.2.2 h w
  · rw [e]; exact louder_a a.1 a.2.1 a.2.2 b.1 b.2.1 b.2.2 h w
/-- The louder one is above both, and below all that is above both. -/
theorem louP_up (a b : C3) : cmpP a (louP a b) ≤ 0 ∧ cmpP b (louP a b) ≤ 0 := by
  have n := cmpP_neg a b
  have sa : cmpP a a = 0 := cmpC_self _ _
  have sb : cmpP b b = 0 := cmpC_self _ _
  rcases louP_cases a b with ⟨e, h⟩ | ⟨e, h⟩ <;> rw [e] <;> omega
theorem louP_least {a b c : C3} (h : cmpP a c ≤ 0) (k : cmpP b c ≤ 0) : cmpP (louP a b) c ≤ 0 := by
  rcases louP_cases a b with ⟨e, _⟩ | ⟨e, _⟩ <;> rw [e] <;> assumption
theorem cmpP_zero {a b : C3} (h : cmpP a b ≤ 0) (k : cmpP b a ≤ 0) : cmpP a b = 0 := by
  have := cmpP_neg a b; omega
theorem louP_comm (a b : C3) : cmpP (louP a b) (louP b a) = 0 :=
  cmpP_zero (louP_least (louP_up b a).2 (louP_up b a).1) (louP_least (louP_up a b).2 (louP_up a b).1)
theorem louP_assoc (a b c : C3) : cmpP (louP (louP a b) c) (louP a (louP b c)) = 0 := by
  have u := louP_up (louP a b) c
  have v := louP_up a (louP b c)
  have ab := louP_up a b
  have bc := louP_up b c
  exact cmpP_zero (louP_least (louP_least v.1 (cmpP_trans bc.1 v.2)) (cmpP_trans bc.2 v.2)) (louP_least (cmpP_trans ab.1 u.1) (louP_least (cmpP_trans ab.2 u.1) u.2))
theorem louP_self (a : C3) : louP a a = a := by
  unfold louP; rw [if_neg (by rw [cmpC_self]; omega)]

theorem louder_any (n1 i1 h1 n2 i2 h2 n3 i3 h3 : Int) (w : World) (ht : Tab w) : Gives Tryd.prog 6 #[.agg #[.int .i64 n1, .int .i64 i1, .int .i64 h1], .agg #[.int .i64 n2, .int .i64 i2, .int .i64 h2], .agg #[.int .i64 n3, .int .i64 i3, .int .i64 h3]] w (.bool true) := by
  have key : ∀ a b c : C3, Gives Tryd.prog 6 #[agP a, agP b, agP c] w (.bool true) := fun a b c => by
    have up := louP_up a b
    have na := cmpP_neg a (louP a b)
    have nb := cmpP_neg b (louP a b)
    refine louder_walk a.1 a.2.1 a.2.2 b.1 b.2.1 b.2.2 c.1 c.2.1 c.2.2 (louP a b).1 (louP a b).2.1 (louP a b).2.2 (louP b a).1 (louP b a).2.1 (louP b a).2.2 (louP b c).1 (louP b c).2.1 (louP b c).2.2
      (louP (louP a b) c).1 (louP (louP a b) c).2.1 (louP (louP a b) c).2.2 (louP a (louP b c)).1 (louP a (louP b c)).2.1 (louP a (louP b c)).2.2 (cmpP (louP a b) a) (cmpP (louP a b) b) w ht
      (louP_gives a b) (louP_gives b a) (louP_gives (louP a b) c) (louP_gives b c) (louP_gives a (louP b c)) (fun w => (louP_gives a a w).cast (by rw [louP_self]))
      (fun w => compare_any _ _ _ _ _ _ w) (fun w => compare_any _ _ _ _ _ _ w) (fun w => (compare_any _ _ _ _ _ _ w).cast (congrArg (Value.int .i64) (louP_comm a b))) (fun w => (compare_any _ _ _ _ _ _ w).cast (congrArg (Value.int .i64) (louP_assoc a b c)))
      (by omega) (by omega) ?_
    rcases louP_cases a b with ⟨e, _⟩ | ⟨e, _⟩ <;> rw [e]
    · by_cases q0 : b.1 = a.1
      · by_cases q1 : b.2.1 = a.2.1
        · by_cases q2 : b.2.2 = a.2.2
          · exact Or.inl ⟨q0.symm, q1.symm, q2.symm⟩
          · exact Or.inr ⟨rfl, rfl, rfl, Or.inr (Or.inr ⟨q0, q1, q2⟩)⟩
        · exact Or.inr ⟨rfl, rfl, rfl, Or.inr (Or.inl ⟨q0, q1⟩)⟩
      · exact Or.inr ⟨rfl, rfl, rfl, Or.inl q0⟩
    · exact Or.inl ⟨rfl, rfl, rfl⟩
  exact key (n1, i1, h1) (n2, i2, h2) (n3, i3, h3)
end Go.Proofs.YtbdhnmjmbbahhaaDoor
