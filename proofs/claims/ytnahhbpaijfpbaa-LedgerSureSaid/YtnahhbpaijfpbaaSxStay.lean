/- What is read out of blocks that stay, beside calls that may come up ahead or behind. -/
import Derived.Test.YtnahhbpaijfpbaaSxRow
namespace Go.Proofs.Ytnahhbpaijfpbaa
open Go Go.RowKit
section
variable {P : Program} {ops : Array Oper} {S : Nat → Prop} {Q : Act → World → Prop} {rest : List (Nat × Nat)} {a : Act} {W : World} {i : Nat} {o : Oper} {d : Option Tmp}
theorem run_loadA {t : TypeId} {x : Operand} {b off : Nat} {cells : List Value} {td : TypeDesc} (ho : o.op = .load t x) (hx : a.eval x = .pointer (some ⟨b, off, none⟩)) (hc : ∀ k u, cells[k]? = some u → W.cell? ⟨b, off + k, none⟩ = some u)
    (hu : P.underlying t = some td) (hd' : (match td with | .struct _ | .array _ _ => true | _ => false) = true) (hn : (P.info? t).map (·.size) = some cells.length) : (execOp a.eval o).run P W = .ok (.value (.agg cells.toArray)) W := by
  obtain ⟨ti, hti, hsz⟩ := Option.map_eq_some_iff.1 hn
  have h1 : (isAgg t).run P W = .ok true W := by
    have hu' : (underlying t).run P W = .ok td W := by simp [underlying, hu, go_sem]
    unfold isAgg
    rw [Sem.run_bind, hu', Result.andThen_ok]
    cases td <;> simp_all [go_sem]
  have h2 : (sizeOf t).run P W = .ok cells.length W := by simp [sizeOf, typeInfo, hti, hsz, go_sem]
  have h3 : (loadCells ⟨b, off, none⟩ cells.length).run P W = .ok cells.toArray W := run_loadFrom cells.length 0 cells #[] hc (by omega) (by simp)
  have h4 : (loadVar t ⟨b, off, none⟩).run P W = .ok (.agg cells.toArray) W := by
    unfold loadVar
    rw [Sem.run_bind, h1, Result.andThen_ok]
    simp only [if_true]
    rw [Sem.run_bind, h2, Result.andThen_ok, Sem.run_bind, h3, Result.andThen_ok]
    rfl
  unfold execOp
  simp only [ho, hx, Instr.loadAt, Instr.sureAddr, Sem.run_bind, Sem.run_pure, Result.andThen_ok, h4]
theorem run_load1 {t : TypeId} {x : Operand} {b off : Nat} {u : Value} {td : TypeDesc} (ho : o.op = .load t x) (hx : a.eval x = .pointer (some ⟨b, off, none⟩)) (hc : W.cell? ⟨b, off, none⟩ = some u)
    (hu : P.underlying t = some td) (hd' : (match td with | .struct _ | .array _ _ => true | _ => false) = false) : (execOp a.eval o).run P W = .ok (.value u) W := by
  have h1 : (isAgg t).run P W = .ok false W := by
    have hu' : (underlying t).run P W = .ok td W := by simp [underlying, hu, go_sem]
    unfold isAgg
    rw [Sem.run_bind, hu', Result.andThen_ok]
    cases td <;> simp_all [go_sem]
  have h4 : (loadVar t ⟨b, off, none⟩).run P W = .ok u W := by
    unfold loadVar
    rw [Sem.run_bind, h1, Result.andThen_ok]
    simp [load, Sem.run, hc]
  unfold execOp
  simp only [ho, hx, Instr.loadAt, Instr.sureAddr, Sem.run_bind, Sem.run_pure, Result.andThen_ok, h4]
theorem wpS_read2 {v : Value} (hi : ops[i]? = some o) (hw : Region.wanted o (yielded ops a.tmps) = true) (hrun : ∀ x, GK S W x → (execOp a.eval o).run P x = .ok (.value v) x) (hd : o.dst = d) (h : wpS P ops S Q rest (a.put d v) W) : wpS P ops S Q ((i, 2) :: rest) a W := by
  subst hd
  show opS P ops S i 2 (wpS P ops S Q rest) a W
  unfold opS
  rw [hi]
  dsimp only
  rw [if_pos (by omega)]
  exact ⟨v, .inl ⟨hw, fun x hx => .inl (hrun x hx)⟩, h⟩
theorem GK.cell {x : World} (h : GK S W x) {b off : Nat} (hb : S b) : x.cell? ⟨b, off, none⟩ = W.cell? ⟨b, off, none⟩ := by
  obtain ⟨y, rfl⟩ := h
  exact y.cell _ hb
/-- A struct read out of a block that stays. -/
theorem wpS_loadA2 {t : TypeId} {x : Operand} {b off : Nat} {cells : List Value} {td : TypeDesc} (hi : ops[i]? = some o) (hw : Region.wanted o (yielded ops a.tmps) = true) (ho : o.op = .load t x) (hx : a.eval x = .pointer (some ⟨b, off, none⟩)) (hb : S b) (hc : ∀ k u, cells[k]? = some u → W.cell? ⟨b, off + k, none⟩ = some u)
    (hu : P.underlying t = some td) (hd' : (match td with | .struct _ | .array _ _ => true | _ => false) = true) (hn : (P.info? t).map (·.size) = some cells.length) (hd : o.dst = d) (h : wpS P ops S Q rest (a.put d (.agg cells.toArray)) W) : wpS P ops S Q ((i, 2) :: rest) a W :=
  wpS_read2 hi hw (fun _y hy => run_loadA ho hx (fun k u hk => (hy.cell hb).trans (hc k u hk)) hu hd' hn) hd h
theorem wpS_load12 {t : TypeId} {x : Operand} {b off : Nat} {u : Value} {td : TypeDesc} (hi : ops[i]? = some o) (hw : Region.wanted o (yielded ops a.tmps) = true) (ho : o.op = .load t x) (hx : a.eval x = .pointer (some ⟨b, off, none⟩)) (hb : S b) (hc : W.cell? ⟨b, off, none⟩ = some u)
    (hu : P.underlying t = some td) (hd' : (match td with | .struct _ | .array _ _ => true | _ => false) = false) (hd : o.dst = d) (h : wpS P ops S Q rest (a.put d u) W) : wpS P ops S Q ((i, 2) :: rest) a W :=
  wpS_read2 hi hw (fun _y hy => run_load1 ho hx ((hy.cell hb).trans hc) hu hd') hd h
end
end Go.Proofs.Ytnahhbpaijfpbaa
