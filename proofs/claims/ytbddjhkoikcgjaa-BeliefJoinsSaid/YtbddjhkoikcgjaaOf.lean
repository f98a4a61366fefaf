/- What Of and Copy give. -/
import Derived.Test.YtbddjhkoikcgjaaView
import Derived.Deep.WholeRow
namespace Go.Proofs.Ytbddjhkoikcgjaa
open Go Go.RowKit

/-- What is believed of a node. -/
def ofV (V : Vw) (n : Int) : Cl := if 0 ≤ n ∧ n < 8 then ⟨n, (V n.toNat).i, (V n.toNat).h⟩ else Cl.zero

set_option maxHeartbeats 1000000 in
set_option maxRecDepth 100000 in
theorem of_out (b : Nat) (n : Int) (w : World) (h : n < 0 ∨ 8 ≤ n) : Gives Try.prog 9 #[.pointer (some ⟨b, 0, none⟩), .int .i64 n] w Cl.zero.val := by
  unfold Gives
  rcases h with h | h
  · go_enter Try.func9, Try.ntmps9
    go_wp2
    exact bodyPost_ret (v := Cl.zero.val) (by simp [results, Try.results9, go_sem, Cl.zero, Cl.val]) rfl ⟨rfl, Later.ex (by repeat (first | exact ext_refl _ | refine ext_alloc ?_ _ | refine ext_later ?_ _ | refine ext_drew ?_ | refine ext_drewN ?_ _ | refine ext_setCell ?_ _ _ (by first | assumption | (dsimp only; omega))))⟩
  · have h' : 0 ≤ n := by omega
    go_enter Try.func9, Try.ntmps9
    go_wp2
    exact bodyPost_ret (v := Cl.zero.val) (by simp [results, Try.results9, go_sem, Cl.zero, Cl.val]) rfl ⟨rfl, Later.ex (by repeat (first | exact ext_refl _ | refine ext_alloc ?_ _ | refine ext_later ?_ _ | refine ext_drew ?_ | refine ext_drewN ?_ _ | refine ext_setCell ?_ _ _ (by first | assumption | (dsimp only; omega))))⟩

set_option maxHeartbeats 1000000 in
set_option maxRecDepth 100000 in
theorem of_nil (n : Int) (w : World) : Gives Try.prog 9 #[.pointer none, .int .i64 n] w Cl.zero.val := by
  unfold Gives
  go_enter Try.func9, Try.ntmps9
  go_wp2
  exact bodyPost_ret (v := Cl.zero.val) (by simp [results, Try.results9, go_sem, Cl.zero, Cl.val]) rfl ⟨rfl, Later.ex (by repeat (first | exact ext_refl _ | refine ext_alloc ?_ _ | refine ext_later ?_ _ | refine ext_drew ?_ | refine ext_drewN ?_ _ | refine ext_setCell ?_ _ _ (by first | assumption | (dsimp only; omega))))⟩

set_option maxHeartbeats 1000000 in
set_option maxRecDepth 100000 in
theorem of_in (b : Nat) (V : Vw) (k : Nat) (hk : k < 8) (w : World) (h : ViewAt w b V) : Gives Try.prog 9 #[.pointer (some ⟨b, 0, none⟩), .int .i64 k] w (Cl.val ⟨k, (V k).i, (V k).h⟩) := by
  unfold Gives Cl.val
  dsimp only
  have hlt := h.lt
  have hne : b ≠ w.heap.size := by omega
  have H8 := cells8 V k hk
  have hc0 : w.cell? ⟨b, k * 3, none⟩ = some (.int .i64 (V k).n) := (h.cell _).trans H8.1
  have hc1 : w.cell? ⟨b, k * 3 + 1, none⟩ = some (.int .i64 (V k).i) := (h.cell _).trans H8.2.1
  have hc2 : w.cell? ⟨b, k * 3 + 2, none⟩ = some (.int .i64 (V k).h) := (h.cell _).trans H8.2.2
  clear h H8
  go_enter Try.func9, Try.ntmps9
  go_wp2
  exact bodyPost_ret (v := .agg #[.int .i64 k, .int .i64 (V k).i, .int .i64 (V k).h]) (by simp [results, Try.results9, go_sem]) rfl ⟨rfl, Later.ex (by repeat (first | exact ext_refl _ | refine ext_alloc ?_ _ | refine ext_later ?_ _ | refine ext_drew ?_ | refine ext_drewN ?_ _ | refine ext_setCell ?_ _ _ (by first | assumption | (dsimp only; omega))))⟩

/-- **Of.** -/
theorem of_any (b : Nat) (V : Vw) (n : Int) (w : World) (h : ViewAt w b V) : Gives Try.prog 9 #[.pointer (some ⟨b, 0, none⟩), .int .i64 n] w (ofV V n).val := by
  by_cases hn : 0 ≤ n ∧ n < 8
  · obtain ⟨k, rfl⟩ : ∃ k : Nat, n = k := ⟨n.toNat, by omega⟩
    have e : ofV V k = ⟨k, (V k).i, (V k).h⟩ := by rw [ofV, if_pos hn]; simp
    rw [e]
    exact of_in b V k (by omega) w h
  · have e : ofV V n = Cl.zero := by rw [ofV, if_neg hn]
    rw [e]
    exact of_out b n w (by omega)

set_option maxHeartbeats 1000000 in
set_option maxRecDepth 100000 in
/-- **Copy.** -/
theorem copy_any (b : Nat) (V : Vw) (w : World) (h : ViewAt w b V) : Calls Try.prog 13 #[.pointer (some ⟨b, 0, none⟩)] w fun e w' => e = .returned (.pointer (some ⟨w.heap.size, 0, none⟩)) ∧ ViewAt w' w.heap.size V ∧ Below w.heap.size w w' ∧ w'.heap.size = w.heap.size + 1 := by
  have hlt := h.lt
  have h' : w.heap[b]? = some (.cells (cellsV V) 42 (0, 0)) := h
  have HV := Lib.hid h'
  clear h h'
  have hst : ∀ w : World, (storeCells ⟨w.heap.size, 0, none⟩ (cellsV V).toList 0).run Try.prog (w.alloc (.cells #[.int .i64 0, .int .i64 0, .int .i64 0, .int .i64 0, .int .i64 0, .int .i64 0, .int .i64 0, .int .i64 0, .int .i64 0, .int .i64 0, .int .i64 0, .int .i64 0, .int .i64 0, .int .i64 0, .int .i64 0, .int .i64 0, .int .i64 0, .int .i64 0, .int .i64 0, .int .i64 0, .int .i64 0, .int .i64 0, .int .i64 0, .int .i64 0] 42)) = .ok () (w.alloc (.cells (cellsV V) 42)) := fun w => run_storeCells_new w _ _ _ (by kernel_rfl) rfl (by simp [cellsV, Value.oneCell'])
  go_enter Try.func13, Try.ntmps13
  go_wp2_with (first | (refine wpList_load_row rfl _ _ rfl b rfl _ _ _ _ HV.out Try.underlying42 (by kernel_rfl) (by kernel_rfl) ?_))
  go_ret
  exact ⟨rfl, heap_alloc_new _ _, (Below.refl _ _).alloc (Nat.le_refl _) _, by simp⟩

set_option maxHeartbeats 1000000 in
theorem copy_nil (w : World) : Gives Try.prog 13 #[.pointer none] w (.pointer none) := by
  unfold Gives
  go_enter Try.func13, Try.ntmps13
  go_wp2
  go_ret
  exact ⟨rfl, Later.ex (by repeat (first | exact ext_refl _ | refine ext_alloc ?_ _ | refine ext_later ?_ _ | refine ext_drew ?_ | refine ext_drewN ?_ _))⟩
end Go.Proofs.Ytbddjhkoikcgjaa
