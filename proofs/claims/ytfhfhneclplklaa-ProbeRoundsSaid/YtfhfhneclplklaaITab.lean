/- A table of eight numbers of the call's own. -/
import Derived.Test.YtfhfhneclplklaaInts
import Derived.Deep.DeepCutAuto
namespace Go.Proofs.Ytfhfhneclplklaa
open Go Go.RowKit

def tab8 (f : Nat → Int) : Array Value := #[.int .i64 (f 0), .int .i64 (f 1), .int .i64 (f 2), .int .i64 (f 3), .int .i64 (f 4), .int .i64 (f 5), .int .i64 (f 6), .int .i64 (f 7)]
theorem tab8_at (f : Nat → Int) (j : Nat) (hj : j < 8) : (tab8 f)[j]? = some (.int .i64 (f j)) := by
  rcases (by omega : j = 0 ∨ j = 1 ∨ j = 2 ∨ j = 3 ∨ j = 4 ∨ j = 5 ∨ j = 6 ∨ j = 7) with rfl | rfl | rfl | rfl | rfl | rfl | rfl | rfl <;> rfl
theorem tab8_set (f : Nat → Int) (j : Nat) (hj : j < 8) (x : Int) : (tab8 f).setIfInBounds j (.int .i64 x) = tab8 (fun i => if i = j then x else f i) := by
  rcases (by omega : j = 0 ∨ j = 1 ∨ j = 2 ∨ j = 3 ∨ j = 4 ∨ j = 5 ∨ j = 6 ∨ j = 7) with rfl | rfl | rfl | rfl | rfl | rfl | rfl | rfl <;> rfl
theorem tab8_congr {f g : Nat → Int} (e : ∀ j, j < 8 → f j = g j) : tab8 f = tab8 g := by
  unfold tab8
  rw [e 0 (by omega), e 1 (by omega), e 2 (by omega), e 3 (by omega), e 4 (by omega), e 5 (by omega), e 6 (by omega), e 7 (by omega)]
theorem index_tab8 (f : Nat → Int) (k : Nat) (hk : k < 8) (w : World) : (Instr.index 41 (.agg (tab8 f)) (.int .i64 k)).run Try.prog w = .ok (.int .i64 (f k)) w := by
  rcases (by omega : k = 0 ∨ k = 1 ∨ k = 2 ∨ k = 3 ∨ k = 4 ∨ k = 5 ∨ k = 6 ∨ k = 7) with rfl | rfl | rfl | rfl | rfl | rfl | rfl | rfl <;> kernel_rfl

/-- The table at block tb holds f. -/
def TabAt (W : World) (tb : Nat) (f : Nat → Int) : Prop := W.heap[tb]? = some (.cells (tab8 f) 41 (0, 0))
section
variable {W : World} {tb : Nat} {f : Nat → Int}
theorem TabAt.lt (h : TabAt W tb f) : tb < W.heap.size := (Array.getElem?_eq_some_iff.1 h).1
theorem TabAt.cell (h : TabAt W tb f) (j : Nat) (hj : j < 8) : W.cell? ⟨tb, j, none⟩ = some (.int .i64 (f j)) := by
  have := tab8_at f j hj
  unfold TabAt at h
  simp only [World.cell?, h]
  exact this
theorem TabAt.fz (h : TabAt W tb f) (j : Nat) : W.frozen? ⟨tb, j, none⟩ = false := by
  unfold TabAt at h
  simp [World.frozen?, h]
theorem TabAt.later (h : TabAt W tb f) (x : Later W) : TabAt x.w tb f := (x.below.block _ h.lt).trans h
theorem TabAt.set (h : TabAt W tb f) (j : Nat) (hj : j < 8) (x : Int) : TabAt (W.setCell ⟨tb, j, none⟩ (.int .i64 x)) tb (fun i => if i = j then x else f i) := by
  unfold TabAt at h ⊢
  rw [heap_setCell_same _ _ _ _ _ _ h, tab8_set f j hj]
theorem TabAt.other (h : TabAt W tb f) {b : Nat} (hb : tb ≠ b) (j : Nat) (v : Value) : TabAt (W.setCell ⟨b, j, none⟩ v) tb f := (Below.heap_setCell _ _ _ tb hb).trans h
theorem TabAt.cast {g : Nat → Int} (h : TabAt W tb f) (e : ∀ j, j < 8 → f j = g j) : TabAt W tb g := by
  unfold TabAt
  rw [← tab8_congr e]
  exact h
theorem tabAt_start (W : World) : TabAt (W.alloc (.cells #[.int .i64 0, .int .i64 0, .int .i64 0, .int .i64 0, .int .i64 0, .int .i64 0, .int .i64 0, .int .i64 0] 41)) W.heap.size (fun _ => 0) := heap_alloc_new W _
end
/-- Since the world w nothing has turned; a table was made then, at block tb. -/
structure TS (w : World) (tb : Nat) (f : Nat → Int) (W : World) : Prop where
  at' : tb = w.heap.size
  tab : TabAt W tb f
  below : Below w.heap.size w W
section
variable {w W : World} {tb : Nat} {f : Nat → Int}
theorem TS.later (h : TS w tb f W) (x : Later W) : TS w tb f x.w := ⟨h.at', h.tab.later x, below_later h.below h.below.size x⟩
theorem TS.set (h : TS w tb f W) (j : Nat) (hj : j < 8) (x : Int) : TS w tb (fun i => if i = j then x else f i) (W.setCell ⟨tb, j, none⟩ (.int .i64 x)) :=
  ⟨h.at', h.tab.set j hj x, ext_setCell h.below _ _ (by rw [h.at']; exact Nat.le_refl _)⟩
theorem TS.cast {g : Nat → Int} (h : TS w tb f W) (e : ∀ j, j < 8 → f j = g j) : TS w tb g W := ⟨h.at', h.tab.cast e, h.below⟩
theorem ts_start (w : World) : TS w w.heap.size (fun _ => 0) (w.alloc (.cells #[.int .i64 0, .int .i64 0, .int .i64 0, .int .i64 0, .int .i64 0, .int .i64 0, .int .i64 0, .int .i64 0] 41)) := ⟨rfl, tabAt_start w, ext_alloc (ext_refl w) _⟩
end
end Go.Proofs.Ytfhfhneclplklaa
