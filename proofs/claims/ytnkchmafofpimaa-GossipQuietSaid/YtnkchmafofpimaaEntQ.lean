/- EntQ: EntQ. -/
import Derived.Test.YtnkchmafofpimaaRgM
import Derived.Test.YtnkchmafofpimaaSxArr
import Derived.Test.YtnkchmafofpimaaSxAny
import Derived.Laws.Rows
import Derived.Laws.StructEq
import Derived.StillTailTactics
namespace Go.Proofs.Ytnkchmafofpimaa
section
open Go Go.RowKit Go.BigFrame
def eV (x : En) : Value := .agg #[.int .i64 x.1, .int .i64 x.2]
set_option maxRecDepth 100000 in
theorem ent_under : Try.prog.underlying 34 = some (.struct (Try.prog.fieldsOf 34)) := Try.underlying34
def twoB (t1 t2 : TypeId) (o2 : Nat) : List Field → Bool
  | [f, g] => f.name != "_" && f.type == t1 && f.offset == 0 && g.name != "_" && g.type == t2 && g.offset == o2
  | _ => false
theorem twoB_spec {t1 t2 : TypeId} {o2 : Nat} : ∀ {l : List Field}, twoB t1 t2 o2 l = true → ∃ f g, l = [f, g] ∧ f.name ≠ "_" ∧ f.type = t1 ∧ f.offset = 0 ∧ g.name ≠ "_" ∧ g.type = t2 ∧ g.offset = o2
  | [f, g], h => by
    simp only [twoB, Bool.and_eq_true, bne_iff_ne, beq_iff_eq] at h
    obtain ⟨⟨⟨⟨⟨h1, h2⟩, h3⟩, h4⟩, h5⟩, h6⟩ := h
    exact ⟨f, g, rfl, h1, h2, h3, h4, h5, h6⟩
  | [], h => by simp [twoB] at h
  | [_], h => by simp [twoB] at h
  | _ :: _ :: _ :: _, h => by simp [twoB] at h
theorem ent_fields : ∃ f g, (Try.prog.fieldsOf 34).toList = [f, g] ∧ f.name ≠ "_" ∧ f.type = 3 ∧ f.offset = 0 ∧ g.name ≠ "_" ∧ g.type = 3 ∧ g.offset = 1 := twoB_spec (by kernel_rfl)
theorem ent_in : Try.prog.stoodInHeld 34 = false := by kernel_rfl
theorem ent_guard : Try.prog.eqGuardType Try.prog.depth 34 = false := by kernel_rfl
theorem int_part {xs : Array Value} {j : Nat} {x : Int} (h : xs[j]? = some (.int .i64 x)) (W : World) : (part 3 xs j).run Try.prog W = .ok (.int .i64 x) W := by
  have hs := int_size W
  have hg := int_agg W
  simp only [part, Sem.run_bind, hg, Result.andThen_ok]
  rw [if_neg (by simp)]
  simp only [h, Sem.run_pure]
theorem run_eqIn' (n : Nat) (W : World) (p q : En) : (Op.equalIn (n + 2) 34 (eV p) (eV q)).run Try.prog W = .ok (decide (p = q)) W := by
  obtain ⟨p1, p2⟩ := p
  obtain ⟨q1, q2⟩ := q
  unfold eV
  obtain ⟨f, g, e0, e1, e2, e3, e4, e5, e6⟩ := ent_fields
  rw [run_equalIn_struct W (n + 1) _ _ _ ent_under ent_in, e0]
  simp only [Op.eqFields]
  rw [if_pos e1, if_pos e4, e2, e3, e5, e6]
  have a1 := int_part (xs := #[.int .i64 p1, .int .i64 p2]) (j := 0) rfl
  have a2 := int_part (xs := #[.int .i64 p1, .int .i64 p2]) (j := 1) rfl
  have b1 := int_part (xs := #[.int .i64 q1, .int .i64 q2]) (j := 0) rfl
  have b2 := int_part (xs := #[.int .i64 q1, .int .i64 q2]) (j := 1) rfl
  simp only [Sem.run_bind, Sem.run_ite, a1, a2, b1, b2, Result.andThen_ok, run_equalIn_int W n 3 .i64 .i64 _ _ Try.underlying3]
  by_cases h1 : p1 = q1 <;> by_cases h2 : p2 = q2 <;> simp [h1, h2]
theorem run_eqIn (W : World) (p q : En) : (Op.equalIn 10000 34 (eV p) (eV q)).run Try.prog W = .ok (decide (p = q)) W := run_eqIn' 9998 W p q
theorem run_eqE {a : Act} {o : Oper} {x y : Operand} {p q : En} {W : World} {tt : TypeId} (ho : o.op = .binOp .eql 34 x y tt) (hx : a.eval x = eV p) (hy : a.eval y = eV q) : (execOp a.eval o).run Try.prog W = .ok (.value (.bool (decide (p = q)))) W := by
  have hg : (eqGuard .eql 34 x y (eV p) (eV q)).run Try.prog W = .ok () W := run_eqGuard_agg W .eql _ x y _ _ ent_guard
  have he := run_eqIn W p q
  unfold execOp
  simp only [ho, hx, hy, Sem.run_bind, hg, Result.andThen_ok]
  unfold eV at he ⊢
  rw [run_eql_struct, he]
  rfl
theorem run_neE {a : Act} {o : Oper} {x y : Operand} {p q : En} {W : World} {tt : TypeId} (ho : o.op = .binOp .neq 34 x y tt) (hx : a.eval x = eV p) (hy : a.eval y = eV q) : (execOp a.eval o).run Try.prog W = .ok (.value (.bool (!decide (p = q)))) W := by
  have hg : (eqGuard .neq 34 x y (eV p) (eV q)).run Try.prog W = .ok () W := run_eqGuard_agg W .neq _ x y _ _ ent_guard
  have he := run_eqIn W p q
  unfold execOp
  simp only [ho, hx, hy, Sem.run_bind, hg, Result.andThen_ok]
  unfold eV at he ⊢
  rw [run_neq_struct, he]
  rfl
theorem run_eqEb {a : Act} {o : Oper} {x y : Operand} {p q : En} {W : World} {tt : TypeId} {b : Bool} (hb : decide (p = q) = b) (ho : o.op = .binOp .eql 34 x y tt) (hx : a.eval x = eV p) (hy : a.eval y = eV q) : (execOp a.eval o).run Try.prog W = .ok (.value (.bool b)) W := by
  subst hb
  exact run_eqE ho hx hy
theorem run_neEb {a : Act} {o : Oper} {x y : Operand} {p q : En} {W : World} {tt : TypeId} {b : Bool} (hb : (!decide (p = q)) = b) (ho : o.op = .binOp .neq 34 x y tt) (hx : a.eval x = eV p) (hy : a.eval y = eV q) : (execOp a.eval o).run Try.prog W = .ok (.value (.bool b)) W := by
  subst hb
  exact run_neE ho hx hy
end
end Go.Proofs.Ytnkchmafofpimaa
