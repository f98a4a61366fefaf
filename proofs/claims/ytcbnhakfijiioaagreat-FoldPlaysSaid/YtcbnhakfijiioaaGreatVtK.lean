/- Keys of maps: texts, dots. -/
import Derived.Test.YtcbnhakfijiioaaGreatPB
import Derived.Test.YtcbnhakfijiioaaGreatBgV
import Derived.Laws.Cover1
namespace Go.Proofs.YtcbnhakfijiioaaGreat
open Go Go.RowKit
theorem sameNow_str (a b : ByteArray) : Instr.sameNow .string (.string a) (.string b) = some (decide (a = b)) := by
 show some (a == b) = _
 rw [beq_toListBytes, bytes_beq]
theorem findNow_str {α : Type} (val : α → Value) (k : ByteArray) : ∀ (l : List (ByteArray × α × Nat)) (i : Nat), Instr.findNow .string (.string k) (l.map fun e => { key := .string e.1, val := val e.2.1, born := e.2.2 }) i = some (findE k val l i)
 | [], _ => rfl
 | e :: l, i => by
  rw [List.map_cons]
  unfold Instr.findNow findE
  rw [sameNow_str]
  by_cases h : k = e.1
  ·rw [decide_eq_true h, if_pos h]
  ·rw [decide_eq_false h, if_neg h]
   exact findNow_str val k l (i + 1)
def strK : KeyK Tryz.prog ByteArray where
 kt := 9
 key := .string
 check b k W := by
  unfold Instr.checkKey
  simp only [Sem.run_bind, run_underlying Tryz.underlying9, Result.andThen_ok, Sem.run_pure]
 find val k l W := by
  unfold Instr.findKey
  simp only [Sem.run_bind, run_underlying Tryz.underlying9, Result.andThen_ok, findNow_str, Sem.run_pure]
 stays k := by
  show (k == k) = true
  rw [beq_toListBytes]
  simp
end Go.Proofs.YtcbnhakfijiioaaGreat
