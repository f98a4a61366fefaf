/- Keys of maps: texts, dots. -/
import Derived.Test.YtcbnhakfijiioaaGreatPB
import Derived.Test.YtcbnhakfijiioaaGreatBgV
import Derived.Laws.Cover1
namespace Go.Proofs.YtcbnhakfijiioaaGreat
open Go Go.RowKit
theorem sameNow_str (a b : ByteArray) : Instr.sameNow .string (.string a) (.string b) = some (decide (a = b)) := by
 show some (a == b) = _
 rw [beq_toListBytes, bytes_beq]
theorem findNow_str {α : Type} (val : α → Value) (k : ByteArray) : ∀ (l : List (ByteArray × α × Nat)) (i : Nat), Instr.findNow .string (.string k) (l.map fun e => { key := .string e.1, val := val e.2.1, born := e.2.2 }) i = some (findE k val l i)
 | [], _ => rfl
 | e :: l, i => by
  rw [List.map_cons]
  unfold Instr.findNow findE
  rw [sameNow_str]
  by_cases h : k = e.1
  ·rw [decide_eq_true h, if_pos h]
  ·rw [decide_eq_false h, if_neg h]
   exact findNow_str val k l (i + 1)
def strK : KeyK Tryz.prog ByteArray where
 kt := 9
 key := .string
 check b k W := by
  unfold Instr.checkKey
  simp only [Sem.run_bind, run_underlying Tryz.underlying9, Result.andThen_ok, Sem.run_pure]
 find val k l W := by
  unfold Instr.findKey
  simp only [Sem.run_bind, run_underlying Tryz.underlying9, Result.andThen_ok, findNow_str, Sem.run_pure]
 stays k := by
  show (k == k) = true
  rw [beq_toListBytes]
  simp
theorem findAsk_dot {α : Type} (val : α → Value) (k : En) (W : World) : ∀ (l : List (En × α × Nat)) (i : Nat), (Instr.findAsking 56 (dV k) (l.map fun e => { key := dV e.1, val := val e.2.1, born := e.2.2 }) i).run Tryz.prog W = .ok (findE k val l i) W
 | [], _ => rfl
 | e :: l, i => by
  rw [List.map_cons]
  unfold Instr.findAsking findE
  have he : (Op.equal 56 (dV k) (dV e.1)).run Tryz.prog W = .ok (decide (k = e.1)) W := run_eqDn W k e.1
  rw [Sem.run_bind, he, Result.andThen_ok]
  by_cases h : k = e.1
  ·rw [decide_eq_true h, if_pos h]
   rfl
  ·rw [decide_eq_false h, if_neg h]
   exact findAsk_dot val k W l (i + 1)
theorem findNow_dot {α : Type} (val : α → Value) (k : En) (fs : Array Field) (e : En × α × Nat) (l : List (En × α × Nat)) : Instr.findNow (.struct fs) (dV k) ((e :: l).map fun e => { key := dV e.1, val := val e.2.1, born := e.2.2 }) 0 = none := rfl
theorem dot_check (b : Bool) (k : En) (W : World) : (Instr.checkKey b 10000 56 (dV k)).run Tryz.prog W = .ok () W := by
 obtain ⟨f, g, e0, e1, e2, e3, e4, e5, e6⟩ := dot_fields
 have e : Tryz.prog.fieldsOf 56 = #[f, g] := Array.ext' e0
 have a1 := dint_part (xs := #[.int .i64 k.1, .int .i64 k.2]) (j := 0) rfl W
 have a2 := dint_part (xs := #[.int .i64 k.1, .int .i64 k.2]) (j := 1) rfl W
 have hi : ∀ x : Int, (Instr.checkKey b 9999 3 (.int .i64 x)).run Tryz.prog W = .ok () W := fun x => by
  unfold Instr.checkKey
  simp only [Sem.run_bind, run_underlying Tryz.underlying3, Result.andThen_ok, Sem.run_pure]
 unfold Instr.checkKey dV
 simp only [Sem.run_bind, run_underlying dot_under, Result.andThen_ok, e]
 simp [e1, e2, e3, e4, e5, e6, a1, a2, hi, Sem.run_bind, Result.andThen_ok]
def dotK : KeyK Tryz.prog En where
 kt := 56
 key := dV
 check := dot_check
 find val k l W := by
  unfold Instr.findKey
  simp only [Sem.run_bind, run_underlying dot_under, Result.andThen_ok]
  cases l with
  | nil => rfl
  | cons e l =>
   rw [findNow_dot]
   exact findAsk_dot val k W (e :: l) 0
 stays k := by
  show ((#[Value.int .i64 k.1, .int .i64 k.2] : Array Value).size == (#[Value.int .i64 k.1, .int .i64 k.2] : Array Value).size && _) = true
  simp [Instr.sameBits]
theorem run_leqS {W : World} {a : Act} {o : Oper} {x y : Operand} {tt : TypeId} {s t : ByteArray} {b : Bool} (hb : (Op.bytesLess s.toList t.toList || s.toList == t.toList) = b) (ho : o.op = .binOp .leq 9 x y tt) (hx : a.eval x = .string s) (hy : a.eval y = .string t) : (execOp a.eval o).run Tryz.prog W = .ok (.value (.bool b)) W := by
 subst hb
 have hg : (eqGuard .leq 9 x y (.string s) (.string t)).run Tryz.prog W = .ok () W := by simp [eqGuard, go_sem]
 unfold execOp
 simp only [ho, hx, hy, Sem.run_bind, hg, Result.andThen_ok, binOp_string_leq, Sem.run_pure]
def valI (x : Int) : Value := .int .i64 x
end Go.Proofs.YtcbnhakfijiioaaGreat
