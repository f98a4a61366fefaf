/- A table of eight numbers beside a queue; what a law's loops over nodes want. -/
import Derived.Test.YtlcmehighgmoeaaRumBack
import Derived.Deep.DeepCutAuto
namespace Go.Proofs.Ytlcmehighgmoeaa
open Go Go.RowKit

/-- A table of eight numbers. -/
def tab8 (f : Nat → Int) : Array Value := #[.int .i64 (f 0), .int .i64 (f 1), .int .i64 (f 2), .int .i64 (f 3), .int .i64 (f 4), .int .i64 (f 5), .int .i64 (f 6), .int .i64 (f 7)]
theorem tab8_at (f : Nat → Int) (j : Nat) (hj : j < 8) : (tab8 f)[j]? = some (.int .i64 (f j)) := by
  rcases (by omega : j = 0 ∨ j = 1 ∨ j = 2 ∨ j = 3 ∨ j = 4 ∨ j = 5 ∨ j = 6 ∨ j = 7) with rfl | rfl | rfl | rfl | rfl | rfl | rfl | rfl <;> rfl
theorem tab8_set (f : Nat → Int) (j : Nat) (hj : j < 8) (x : Int) : (tab8 f).setIfInBounds j (.int .i64 x) = tab8 (fun i => if i = j then x else f i) := by
  rcases (by omega : j = 0 ∨ j = 1 ∨ j = 2 ∨ j = 3 ∨ j = 4 ∨ j = 5 ∨ j = 6 ∨ j = 7) with rfl | rfl | rfl | rfl | rfl | rfl | rfl | rfl <;> rfl
theorem tab8_congr {f g : Nat → Int} (e : ∀ j, j < 8 → f j = g j) : tab8 f = tab8 g := by
  unfold tab8
  rw [e 0 (by omega), e 1 (by omega), e 2 (by omega), e 3 (by omega), e 4 (by omega), e 5 (by omega), e 6 (by omega), e 7 (by omega)]
theorem index_tab8 (f : Nat → Int) (k : Nat) (hk : k < 8) (w : World) : (Instr.index 48 (.agg (tab8 f)) (.int .i64 k)).run Try.prog w = .ok (.int .i64 (f k)) w := by
  rcases (by omega : k = 0 ∨ k = 1 ∨ k = 2 ∨ k = 3 ∨ k = 4 ∨ k = 5 ∨ k = 6 ∨ k = 7) with rfl | rfl | rfl | rfl | rfl | rfl | rfl | rfl <;> kernel_rfl

/-- A table of the call's own at block cb, beside a queue. -/
structure Cnt (w : World) (cb q often : Nat) (R : List Td) (f : Nat → Int) (W : World) : Prop where
  qs : QS w [cb] q often R W
  obj : W.heap[cb]? = some (.cells (tab8 f) 48 (0, 0))
  ge : w.heap.size ≤ cb
section
variable {w : World} {cb q often : Nat} {R : List Td} {f : Nat → Int} {W : World}
theorem Cnt.lt (h : Cnt w cb q often R f W) : cb < W.heap.size := (Array.getElem?_eq_some_iff.1 h.obj).1
theorem Cnt.cell (h : Cnt w cb q often R f W) (j : Nat) (hj : j < 8) : W.cell? ⟨cb, j, none⟩ = some (.int .i64 (f j)) := by
  have := tab8_at f j hj
  simp only [World.cell?, h.obj]
  exact this
theorem Cnt.fz (h : Cnt w cb q often R f W) (j : Nat) : W.frozen? ⟨cb, j, none⟩ = false := by simp [World.frozen?, h.obj]
theorem Cnt.later (h : Cnt w cb q often R f W) (x : Later W) : Cnt w cb q often R f x.w := ⟨h.qs.later x, (x.below.block _ h.lt).trans h.obj, h.ge⟩
theorem Cnt.mk' {R' : List Td} {W' : World} (h : Cnt w cb q often R f W) (hq : QS w [cb] q often R' W') (hk : Keeps [cb] W W') : Cnt w cb q often R' f W' := ⟨hq, (hk.2 _ (by simp)).trans h.obj, h.ge⟩
theorem Cnt.cast {g : Nat → Int} (h : Cnt w cb q often R f W) (e : ∀ j, j < 8 → f j = g j) : Cnt w cb q often R g W := ⟨h.qs, by rw [← tab8_congr e]; exact h.obj, h.ge⟩
theorem Cnt.set (h : Cnt w cb q often R f W) (j : Nat) (hj : j < 8) (x : Int) : Cnt w cb q often R (fun i => if i = j then x else f i) (W.setCell ⟨cb, j, none⟩ (.int .i64 x)) := by
  refine ⟨h.qs.keep (ext_setCell h.qs.below _ _ h.ge) (by simp) (fun k _ hG => Below.heap_setCell _ _ _ _ (by simpa using hG)), ?_, h.ge⟩
  rw [heap_setCell_same _ _ _ _ _ _ h.obj, tab8_set f j hj]
theorem Cnt.start {G : List Nat} (h : QS w G q often R W) : Cnt w W.heap.size q often R (fun _ => 0) (W.alloc (.cells #[.int .i64 0, .int .i64 0, .int .i64 0, .int .i64 0, .int .i64 0, .int .i64 0, .int .i64 0, .int .i64 0] 48)) :=
  ⟨(h.wider (ext_alloc (ext_refl W) _) (Nat.le_refl _) (by simp)).narrower (by simp), heap_alloc_new W _, h.below.size⟩
end

/-- How often a node's claim was told, or -1. -/
def cntOf (R : List Td) (j : Nat) : Int := match hasOf R (j : Int) with | some t => t.n | none => -1
theorem hasOf_mem {R : List Td} {n : Int} {t : Td} (h : hasOf R n = some t) : t ∈ R ∧ t.c.n = n := by
  unfold hasOf at h
  exact ⟨List.mem_of_find?_eq_some h, by simpa using List.find?_some h⟩
theorem hasOf_once {R : List Td} (ho : Once R) {t : Td} (ht : t ∈ R) : hasOf R t.c.n = some t := by
  cases hf : hasOf R t.c.n with
  | none =>
    unfold hasOf at hf
    rw [List.find?_eq_none] at hf
    have := hf t ht
    simp at this
  | some u =>
    obtain ⟨hu, hn⟩ := hasOf_mem hf
    congr 1
    unfold Once at ho
    by_cases e : u = t
    · exact e
    · exfalso
      rw [List.pairwise_iff_forall_sublist] at ho
      rcases List.mem_iff_getElem.1 hu with ⟨i, hi, rfl⟩
      rcases List.mem_iff_getElem.1 ht with ⟨j, hj, rfl⟩
      have ho' := List.pairwise_iff_forall_sublist.2 @ho
      rw [List.pairwise_iff_getElem] at ho'
      rcases Nat.lt_trichotomy i j with h | h | h
      · exact ho' i j hi hj h hn
      · subst h; exact e rfl
      · exact ho' j i hj hi h hn.symm
theorem cntOf_mem {R : List Td} (ho : Once R) {t : Td} (ht : t ∈ R) {j : Nat} (hj : t.c.n = (j : Int)) : cntOf R j = t.n := by
  unfold cntOf
  rw [← hj, hasOf_once ho ht]
theorem hasV_form (o : Option Td) : (∃ t, o = some t ∧ hasV o = .tuple #[.agg #[.int .i64 t.c.n, .int .i64 t.c.i, .int .i64 t.c.h], .int .i64 t.n, .bool true]) ∨ (o = none ∧ hasV o = .tuple #[.agg #[.int .i64 0, .int .i64 0, .int .i64 0], .int .i64 0, .bool false]) := by
  cases o with
  | none => exact .inr ⟨rfl, rfl⟩
  | some t => exact .inl ⟨t, rfl, rfl⟩
end Go.Proofs.Ytlcmehighgmoeaa
