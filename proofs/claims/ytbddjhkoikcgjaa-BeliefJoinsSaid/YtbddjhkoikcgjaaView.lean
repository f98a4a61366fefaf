/- A view in memory, and what New, Hear, Of and Copy give. -/
import Derived.Test.YtbddjhkoikcgjaaClaims
import Derived.RegionTactic
import Derived.BigRegion
import Derived.Laws.Rows
import Derived.RangeFuncNested
import Derived.Outline
namespace Go.Proofs.Ytbddjhkoikcgjaa
open Go Go.RowKit

/-- A claim: node, incarnation, health. -/
structure Cl where
  n : Int
  i : Int
  h : Int
def Cl.val (c : Cl) : Value := .agg #[.int .i64 c.n, .int .i64 c.i, .int .i64 c.h]
def Cl.zero : Cl := ⟨0, 0, 0⟩
def cmpK (a b : Cl) : Int := cmpC a.i a.h b.i b.h
def mayK (c : Cl) : Bool := mayB c.n c.i c.h
/-- A view: the claim of each node. -/
def Vw := Nat → Cl
def cellsV (V : Vw) : Array Value := #[.int .i64 (V 0).n, .int .i64 (V 0).i, .int .i64 (V 0).h, .int .i64 (V 1).n, .int .i64 (V 1).i, .int .i64 (V 1).h, .int .i64 (V 2).n, .int .i64 (V 2).i, .int .i64 (V 2).h, .int .i64 (V 3).n, .int .i64 (V 3).i, .int .i64 (V 3).h, .int .i64 (V 4).n, .int .i64 (V 4).i, .int .i64 (V 4).h, .int .i64 (V 5).n, .int .i64 (V 5).i, .int .i64 (V 5).h, .int .i64 (V 6).n, .int .i64 (V 6).i, .int .i64 (V 6).h, .int .i64 (V 7).n, .int .i64 (V 7).i, .int .i64 (V 7).h]
def ViewAt (W : World) (b : Nat) (V : Vw) : Prop := W.heap[b]? = some (.cells (cellsV V) 42 (0, 0))
def putV (V : Vw) (c : Cl) : Vw := fun k => if k = c.n.toNat then c else V k
def heardB (V : Vw) (c : Cl) : Bool := mayK c && decide (0 < cmpK c (V c.n.toNat))
def hearV (V : Vw) (c : Cl) : Vw := if heardB V c then putV V c else V
def emptyV : Vw := fun _ => Cl.zero

theorem cells8 (V : Vw) (k : Nat) (hk : k < 8) : (cellsV V)[k * 3]? = some (.int .i64 (V k).n) ∧ (cellsV V)[k * 3 + 1]? = some (.int .i64 (V k).i) ∧ (cellsV V)[k * 3 + 2]? = some (.int .i64 (V k).h) := by
  rcases (by omega : k = 0 ∨ k = 1 ∨ k = 2 ∨ k = 3 ∨ k = 4 ∨ k = 5 ∨ k = 6 ∨ k = 7) with rfl | rfl | rfl | rfl | rfl | rfl | rfl | rfl <;> exact ⟨rfl, rfl, rfl⟩
theorem ViewAt.lt {W : World} {b : Nat} {V : Vw} (h : ViewAt W b V) : b < W.heap.size := (Array.getElem?_eq_some_iff.1 h).1
theorem ViewAt.cell {W : World} {b : Nat} {V : Vw} (h : ViewAt W b V) (j : Nat) : W.cell? ⟨b, j, none⟩ = (cellsV V)[j]? := by simp [World.cell?, show W.heap[b]? = _ from h]
theorem ViewAt.frozen {W : World} {b : Nat} {V : Vw} (h : ViewAt W b V) (j : Nat) : W.frozen? ⟨b, j, none⟩ = false := by simp [World.frozen?, show W.heap[b]? = _ from h]
theorem ViewAt.kept {W W' : World} {row : Option Nat} {b : Nat} {V : Vw} (h : ViewAt W b V) (hg : W.grownBy W' row) (hne : some b ≠ row) : ViewAt W' b V := (hg.block b h.lt hne).trans h
theorem ViewAt.later {W W' : World} {b : Nat} {V : Vw} (h : ViewAt W b V) (hb : Below W.heap.size W W') : ViewAt W' b V := (hb.block b h.lt).trans h
theorem grownBy_of_below {W W' : World} (hb : Below W.heap.size W W') (row : Option Nat) : W.grownBy W' row := ⟨hb.os, hb.tape, hb.output, hb.size, fun k hk _ => hb.block k hk⟩
theorem grownBy_trans {A B C : World} {row : Option Nat} (h : A.grownBy B row) (k : B.grownBy C row) : A.grownBy C row :=
  ⟨k.os.trans h.os, k.tape.trans h.tape, k.output.trans h.output, Nat.le_trans h.size k.size, fun i hi hn => (k.block i (Nat.lt_of_lt_of_le hi h.size) hn).trans (h.block i hi hn)⟩
theorem grownBy_drew (W : World) (row : Option Nat) : W.grownBy W.drew row := ⟨rfl, rfl, rfl, Nat.le_refl _, fun _ _ _ => rfl⟩
theorem grownBy_set (W : World) (b o : Nat) (v : Value) : W.grownBy (W.setCell ⟨b, o, none⟩ v) (some b) :=
  ⟨rfl, rfl, rfl, by simp [World.setCell], fun k _ hk => Below.heap_setCell _ _ _ k (fun e => hk (by rw [e]))⟩

/-- Three stores into a view are a new claim. -/
theorem ViewAt.set3 {W : World} {b : Nat} {V : Vw} (h : ViewAt W b V) (c : Cl) (k : Nat) (hk : k < 8) (hn : c.n = k) :
    ViewAt (((W.setCell ⟨b, k * 3, none⟩ (.int .i64 c.n)).setCell ⟨b, k * 3 + 1, none⟩ (.int .i64 c.i)).setCell ⟨b, k * 3 + 2, none⟩ (.int .i64 c.h)) b (putV V c) := by
  have h1 := heap_setCell_same W b (k * 3) _ _ (.int .i64 c.n) h
  have h2 := heap_setCell_same _ b (k * 3 + 1) _ _ (.int .i64 c.i) h1
  have h3 := heap_setCell_same _ b (k * 3 + 2) _ _ (.int .i64 c.h) h2
  refine h3.trans ?_
  congr 2
  have e : c.n.toNat = k := by omega
  unfold putV
  rw [e]
  rcases (by omega : k = 0 ∨ k = 1 ∨ k = 2 ∨ k = 3 ∨ k = 4 ∨ k = 5 ∨ k = 6 ∨ k = 7) with rfl | rfl | rfl | rfl | rfl | rfl | rfl | rfl <;> rfl

set_option maxHeartbeats 1000000 in
set_option maxRecDepth 100000 in
theorem new_any (w : World) : Calls Try.prog 7 #[] w fun e w' => e = .returned (.pointer (some ⟨w.heap.size, 0, none⟩)) ∧ w' = w.alloc (.cells (cellsV emptyV) 42) := by
  go_enter Try.func7, Try.ntmps7
  go_wp2
  go_ret
  exact ⟨rfl, rfl⟩

set_option maxHeartbeats 1000000 in
set_option maxRecDepth 100000 in
theorem hear_no (b : Nat) (V : Vw) (c : Cl) (w : World) (h : ViewAt w b V) (hm : mayK c = false) : Gives Try.prog 8 #[.pointer (some ⟨b, 0, none⟩), c.val] w (.bool false) := by
  obtain ⟨n, i, s⟩ := c
  unfold Gives
  have HM : Hid (∀ w, Gives Try.prog 17 #[.agg #[.int .i64 n, .int .i64 i, .int .i64 s]] w (.bool false)) := Lib.hid (fun w => (may_any n i s w).cast (by rw [show mayB n i s = false from hm]))
  clear hm
  have HV := Lib.hid h
  clear h
  unfold Cl.val
  dsimp only
  go_enter Try.func8, Try.ntmps8
  go_wp2
  refine wp_region_later (by kernel_rfl) (by kernel_rfl) ?_
  repeat (go_big_quiet_step (first | (go_at_call 17; with_reducible exact later_of (HM.out _))))
  refine wpQuiet_nil ?_
  rintro _ ⟨x9, rfl⟩
  go_wp2
  all_goals go_ret
  all_goals exact ⟨rfl, Later.ex (by repeat (first | exact ext_refl _ | refine ext_alloc ?_ _ | refine ext_later ?_ _ | refine ext_drew ?_ | refine ext_drewN ?_ _))⟩
end Go.Proofs.Ytbddjhkoikcgjaa
