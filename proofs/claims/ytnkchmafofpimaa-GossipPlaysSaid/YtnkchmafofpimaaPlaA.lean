/- PlaA: PlaA. -/
import Derived.Test.YtnkchmafofpimaaPlaM
import Derived.Test.YtnkchmafofpimaaSxRes
import Derived.Test.YtnkchmafofpimaaSxBase
import Derived.Lib.SliceRun
namespace Go.Proofs.Ytnkchmafofpimaa
section
open Go Go.RowKit Go.BigFrame
theorem may_ways (v b : Int) (t : List Int) : (v = 0 ∧ b = 0 ∧ t.length = 0 ∧ noneB v b t.length = true ∧ mayP (v, b, t) = true) ∨ (v = 0 ∧ b = 0 ∧ t.length ≠ 0 ∧ noneB v b t.length = false ∧ mayP (v, b, t) = false) ∨ (v = 0 ∧ b ≠ 0 ∧ noneB v b t.length = false ∧ mayP (v, b, t) = false) ∨ (v ≠ 0 ∧ ¬ 1 ≤ v ∧ noneB v b t.length = false ∧ mayP (v, b, t) = false) ∨ (v ≠ 0 ∧ 1 ≤ v ∧ ¬ v ≤ 1000000 ∧ noneB v b t.length = false ∧ mayP (v, b, t) = false) ∨ (v ≠ 0 ∧ 1 ≤ v ∧ v ≤ 1000000 ∧ nodeE b = false ∧ noneB v b t.length = false ∧ mayP (v, b, t) = false) ∨ (v ≠ 0 ∧ 1 ≤ v ∧ v ≤ 1000000 ∧ nodeE b = true ∧ noneB v b t.length = false ∧ mayP (v, b, t) = tgtL t) := by
  have hm : mayP (v, b, t) = (noneB v b t.length || (decide (1 ≤ v ∧ v ≤ 1000000) && nodeE b && tgtL t)) := rfl
  rw [hm]
  by_cases h1 : v = 0
  · have k0 : decide (1 ≤ v ∧ v ≤ 1000000) = false := decide_eq_false (by omega)
    by_cases h2 : b = 0
    · by_cases h3 : t.length = 0
      · have k1 : noneB v b t.length = true := decide_eq_true ⟨h1, h2, h3⟩
        exact .inl ⟨h1, h2, h3, k1, by rw [k1]; rfl⟩
      · have k1 : noneB v b t.length = false := decide_eq_false (by omega)
        exact .inr (.inl ⟨h1, h2, h3, k1, by rw [k1, k0]; rfl⟩)
    · have k1 : noneB v b t.length = false := decide_eq_false (by omega)
      exact .inr (.inr (.inl ⟨h1, h2, k1, by rw [k1, k0]; rfl⟩))
  · have k1 : noneB v b t.length = false := decide_eq_false (by omega)
    by_cases h2 : 1 ≤ v
    · by_cases h3 : v ≤ 1000000
      · have k0 : decide (1 ≤ v ∧ v ≤ 1000000) = true := decide_eq_true ⟨h2, h3⟩
        rcases Bool.eq_false_or_eq_true (nodeE b) with hn | hn
        · exact .inr (.inr (.inr (.inr (.inr (.inr ⟨h1, h2, h3, hn, k1, by rw [k1, k0, hn]; rfl⟩)))))
        · exact .inr (.inr (.inr (.inr (.inr (.inl ⟨h1, h2, h3, hn, k1, by rw [k1, k0, hn]; rfl⟩)))))
      · exact .inr (.inr (.inr (.inr (.inl ⟨h1, h2, h3, k1, by rw [k1, decide_eq_false (show ¬ (1 ≤ v ∧ v ≤ 1000000) by omega)]; rfl⟩))))
    · exact .inr (.inr (.inr (.inl ⟨h1, h2, k1, by rw [k1, decide_eq_false (show ¬ (1 ≤ v ∧ v ≤ 1000000) by omega)]; rfl⟩)))
theorem cmp_ways (a b : Pl) : (a.1 ≠ b.1 ∧ cmpP a b = cmpI a.1 b.1) ∨ (a.1 = b.1 ∧ a.2.1 ≠ b.2.1 ∧ cmpP a b = cmpI a.2.1 b.2.1) ∨ (a.1 = b.1 ∧ a.2.1 = b.2.1 ∧ a.2.2.length ≠ b.2.2.length ∧ cmpP a b = cmpI a.2.2.length b.2.2.length) ∨ (a.1 = b.1 ∧ a.2.1 = b.2.1 ∧ a.2.2.length = b.2.2.length ∧ cmpP a b = cmpL a.2.2 b.2.2) := by
  unfold cmpP
  by_cases h1 : a.1 = b.1
  · have e1 := orI_next (b := orI (cmpI a.2.1 b.2.1) (orI (cmpI a.2.2.length b.2.2.length) (cmpL a.2.2 b.2.2))) ((cmpI_zero _ _).2 h1)
    by_cases h2 : a.2.1 = b.2.1
    · have e2 := orI_next (b := orI (cmpI a.2.2.length b.2.2.length) (cmpL a.2.2 b.2.2)) ((cmpI_zero _ _).2 h2)
      by_cases h3 : a.2.2.length = b.2.2.length
      · exact .inr (.inr (.inr ⟨h1, h2, h3, by rw [e1, e2, orI_next ((cmpI_zero _ _).2 (by omega))]⟩))
      · exact .inr (.inr (.inl ⟨h1, h2, h3, by rw [e1, e2, orI_self fun h => h3 (by have := (cmpI_zero _ _).1 h; omega)]⟩))
    · exact .inr (.inl ⟨h1, h2, by rw [e1, orI_self fun h => h2 ((cmpI_zero _ _).1 h)]⟩)
  · exact .inl ⟨h1, orI_self fun h => h1 ((cmpI_zero _ _).1 h)⟩
theorem int_letter (p : Int) : ∃ x, p = x := ⟨p, rfl⟩
theorem bool_letter (p : Bool) : ∃ x, p = x := ⟨p, rfl⟩
theorem plan_letters (p : Pl) : ∃ x y z, p = (x, y, z) := ⟨p.1, p.2.1, p.2.2, rfl⟩
theorem next_letters (p : Pl × Int) : ∃ x y z e, p = ((x, y, z), e) := ⟨p.1.1, p.1.2.1, p.1.2.2, p.2, rfl⟩
theorem same_self (p : Pl) : decide (p = p) = true := by simp
/-- What reads, reads a row. -/
theorem Reads.row {P : Program} {α : Type} {E : Elem P α} {A : At} {v : Value} {xs : List α} (h : Reads E A v xs) : ∀ W H, A.p W H → RowAt E W v xs := fun W H q => (h W H q).1
theorem srcOld {W0 : World} {v : Value} {xs : List Int} (hv : SrcE elemI W0 v xs) : Reads elemI (oldT W0) v xs := fun _ _ h => OldA.src h hv
theorem srcL {v : Value} {xs : List Int} {l : List At} (i : Nat) {A : At} (hi : l[i]? = some A) (hA : Reads elemI A v xs) : Reads elemI (listT l) v xs := fun W H h => by
  obtain ⟨H1, H2, h1, _⟩ := stars_pick l i A hi h
  exact hA W H1 h1
theorem srcNil (R : At) : Reads elemI R (.slice none 0 0) [] := fun _ _ _ => ⟨.inl ⟨rfl, _, _, rfl⟩, none, 0, rfl, Nat.zero_le _, fun _ => rfl⟩
theorem srcInts {b n : Nat} {l : List Int} (hn : l.length = n) : Reads elemI (intsT b l) (.slice (some ⟨b, 0, none⟩) n n) l := fun W H h => ⟨ints_reads hn W H h, _, n, by rw [hn], by omega, fun h => by cases h⟩
theorem src_nil {P : Program} {α : Type} {E : Elem P α} {W : World} {n c : Nat} {l : List α} (h : SrcE E W (.slice none n c) l) : l = [] := by
  obtain ⟨_, p, cap, he, hle, hp⟩ := h
  simp only [Value.slice.injEq] at he
  obtain ⟨rfl, _, rfl⟩ := he
  exact List.eq_nil_of_length_eq_zero (by have := hp rfl; omega)
theorem run_eqnil {a : Act} {o : Oper} {x y : Operand} {p : Option Addr} {n c : Nat} {W : World} {tt : TypeId} (ho : o.op = .binOp .eql 30 x y tt) (hx : a.eval x = .slice p n c) (hy : a.eval y = .slice none 0 0) : (execOp a.eval o).run Try.prog W = .ok (.value (.bool p.isNone)) W := by
  have he := Go.Lib.run_eql_slice_nil (P := Try.prog) W 30 3 p n c 0 0 Try.underlying30
  have hg : (eqGuard .eql 30 x y (.slice p n c) (.slice none 0 0)).run Try.prog W = .ok () W := by
    unfold eqGuard
    simp [go_sem]
  unfold execOp
  simp only [ho, hx, hy, Sem.run_bind, hg, he, Result.andThen_ok, Sem.run_pure]
/-- A plan that a call made: its targets are a row of its own. -/
def planT (u : Value) (x : Pl) : At := exT fun s : Option Addr × Nat => [prT (u = .agg #[.int .i64 x.1, .int .i64 x.2.1, .slice s.1 x.2.2.length s.2]), rowT elemI (.slice s.1 x.2.2.length s.2) x.2.2]
/-- The same beside an error. -/
def nextT (u : Value) (x : Pl) (e : Int) : At := exT fun s : Option Addr × Nat => [prT (u = .tuple #[.agg #[.int .i64 x.1, .int .i64 x.2.1, .slice s.1 x.2.2.length s.2], .int .i64 e]), rowT elemI (.slice s.1 x.2.2.length s.2) x.2.2]
section
variable {L : List At} {H0 : Nat → Prop} {w W : World}
theorem Mem.toPlan {p : Option Addr} {c : Nat} {v b : Int} {t : List Int} (h : Mem (rowT elemI (.slice p t.length c) t :: L) H0 w W) : Mem (planT (.agg #[.int .i64 v, .int .i64 b, .slice p t.length c]) (v, b, t) :: L) H0 w W := Mem.addEx (p, c) (Mem.addPr rfl h)
theorem Mem.toNext {p : Option Addr} {c : Nat} {v b e : Int} {t : List Int} (h : Mem (rowT elemI (.slice p t.length c) t :: L) H0 w W) : Mem (nextT (.tuple #[.agg #[.int .i64 v, .int .i64 b, .slice p t.length c], .int .i64 e]) (v, b, t) e :: L) H0 w W := Mem.addEx (p, c) (Mem.addPr rfl h)
theorem Mem.plan {u : Value} {v b : Int} {t : List Int} {n : Nat} (hn : t.length = n) (h : Mem (planT u (v, b, t) :: L) H0 w W) : ∃ p c, u = .agg #[.int .i64 v, .int .i64 b, .slice p n c] ∧ Mem (rowT elemI (.slice p n c) t :: L) H0 w W := by
  subst hn
  obtain ⟨s, h⟩ := Mem.ex h
  obtain ⟨hu, h⟩ := Mem.pr h
  exact ⟨s.1, s.2, hu, h⟩
theorem Mem.next {u : Value} {v b e : Int} {t : List Int} {n : Nat} (hn : t.length = n) (h : Mem (nextT u (v, b, t) e :: L) H0 w W) : ∃ p c, u = .tuple #[.agg #[.int .i64 v, .int .i64 b, .slice p n c], .int .i64 e] ∧ Mem (rowT elemI (.slice p n c) t :: L) H0 w W := by
  subst hn
  obtain ⟨s, h⟩ := Mem.ex h
  obtain ⟨hu, h⟩ := Mem.pr h
  exact ⟨s.1, s.2, hu, h⟩
end
theorem join_ways (a b : Pl) : (0 < cmpP b a ∧ joinP a b = b) ∨ (¬ 0 < cmpP b a ∧ joinP a b = a) := by
  by_cases h : 0 < cmpP b a
  · exact .inl ⟨h, if_pos h⟩
  · exact .inr ⟨h, if_neg h⟩
end
end Go.Proofs.Ytnkchmafofpimaa
