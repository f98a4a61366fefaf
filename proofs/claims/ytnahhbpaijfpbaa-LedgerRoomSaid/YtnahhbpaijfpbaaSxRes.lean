/- Results: a struct in a variable of its own beside a plain one. -/
import Derived.Test.YtnahhbpaijfpbaaSxMem
import Derived.Laws.Rows
namespace Go.Proofs.Ytnahhbpaijfpbaa
open Go Go.RowKit Go.BigFrame
section
variable {P : Program} {a : Act} {w w0 : World} {L : List At} {H0 : Nat → Prop}
theorem results_cell_tmp {fn : Func} {p q : Tmp} {ty : TypeId} (h : fn.results = #[.cell p ty, .tmp q]) (tmps : Array Value) (w : World) (g : Nat) (t : TypeId) (cs : Array Value) (d : TypeDesc) (hp : tmps.getD p undef = .pointer (some ⟨g, 0, none⟩)) (hg : w.heap[g]? = some (.cells cs t (0, 0)))
    (hu : P.underlying ty = some d) (hd : (match d with | .struct _ | .array _ _ => true | _ => false) = true) (hi : (P.info? ty).map (·.size) = some cs.size) : (results fn tmps).run P w = .ok (.tuple #[.agg cs, tmps.getD q undef]) w := by
  have hp' : tmps[p]?.getD undef = .pointer (some ⟨g, 0, none⟩) := by simpa using hp
  have e1 := run_loadVar_row (P := P) w g t ty cs (0, 0) d hg hu hd hi
  simp [results, h, hp', asAddr, e1]
theorem ret_cell_tmp {fn : Func} {p q : Tmp} {ty tt : TypeId} {b : Nat} {cs : Array Value} {td : TypeDesc} {R : Ending → World → Prop} {v2 : Value} (h : fn.results = #[.cell p ty, .tmp q]) (hm : Mem L H0 w0 w) (k : Nat) (hk : L[k]? = some (boxT b (.cells cs tt (0, 0)))) (hp : a.tmps.getD p undef = .pointer (some ⟨b, 0, none⟩))
    (hu : P.underlying ty = some td) (hd : (match td with | .struct _ | .array _ _ => true | _ => false) = true) (hi : (P.info? ty).map (·.size) = some cs.size) (hq : a.tmps.getD q undef = v2) (hdf : a.defers = []) (hR : R (.returned (.tuple #[.agg cs, v2])) w) : bodyPost P fn R .ret a w := by
  subst hq
  exact bodyPost_ret (results_cell_tmp h a.tmps w b tt cs td hp (hm.box k hk) hu hd hi) hdf hR
/-- An operation that reads nothing of the world, by its outcome. -/
theorem wpS_read0 {ops : Array Oper} {S : Nat → Prop} {Q : Act → World → Prop} {W : World} {rest : List (Nat × Nat)} {i : Nat} {o : Oper} {d : Option Tmp} {v : Value} (hi : ops[i]? = some o) (hw : Region.wanted o (yielded ops a.tmps) = true) (hrun : ∀ x : World, (execOp a.eval o).run P x = .ok (.value v) x) (hd : o.dst = d) (h : wpS P ops S Q rest (a.put d v) W) : wpS P ops S Q ((i, 0) :: rest) a W := by
  subst hd
  show opS P ops S i 0 (wpS P ops S Q rest) a W
  unfold opS
  rw [hi]
  dsimp only
  rw [if_pos (by omega)]
  exact ⟨v, .inl ⟨hw, fun x _ => .inl (hrun x)⟩, h⟩
end
end Go.Proofs.Ytnahhbpaijfpbaa
