/- Worlds that come later than a given one, and regions that draw their order among calls that only make new memory: one walk in the order of the text serves every order. -/
import Derived.WalkKit
import Derived.Handy
import Derived.BigQuiet
import Derived.Lib.Hide
import Derived.Sort.Grow
import Derived.Lib.ItoaMem
import Derived.Lib.SmallJoins
namespace Go.Proofs.Ytnahhbpaijfpbaa
open Go Go.RowKit

/-- A world in which nothing has turned that was there in W: new blocks, draws. -/
structure Later (W : World) where
  w : World
  below : Below W.heap.size W w

instance {W : World} : Nonempty (Later W) := ⟨⟨W, Below.refl _ _⟩⟩
theorem Later.ex {W w' : World} (h : Below W.heap.size W w') : ∃ x : Later W, w' = x.w := ⟨⟨w', h⟩, rfl⟩
@[simp, go_sem] theorem Later.cell {W : World} (x : Later W) (a : Addr) (h : a.block < W.heap.size) : x.w.cell? a = W.cell? a := x.below.cell h
@[simp, go_sem] theorem Later.frozen {W : World} (x : Later W) (a : Addr) (h : a.block < W.heap.size) : x.w.frozen? a = W.frozen? a := x.below.frozen h
@[simp, go_sem] theorem Later.lt {W : World} (x : Later W) (b : Nat) (h : b < W.heap.size) : (b < x.w.heap.size) = True := eq_true (Nat.lt_of_lt_of_le h x.below.size)
@[simp, go_sem] theorem Later.le {W : World} (x : Later W) (b : Nat) (h : b ≤ W.heap.size) : (b ≤ x.w.heap.size) = True := eq_true (Nat.le_trans h x.below.size)
theorem below_drewN {B : Nat} {a w : World} (h : Below B a w) (n : Nat) : Below B a (w.drewN n) := ⟨h.os, h.tape, h.output, h.size, h.block⟩

theorem below_later {B : Nat} {a w : World} (h : Below B a w) (hB : B ≤ w.heap.size) (x : Later w) : Below B a x.w := h.trans (x.below.mono hB)
theorem ext_refl (a : World) : Below a.heap.size a a := Below.refl _ _
theorem ext_alloc {a w : World} (h : Below a.heap.size a w) (o : Obj) : Below a.heap.size a (w.alloc o) := h.alloc h.size o
theorem ext_drew {a w : World} (h : Below a.heap.size a w) : Below a.heap.size a w.drew := h.drew
theorem ext_drewN {a w : World} (h : Below a.heap.size a w) (n : Nat) : Below a.heap.size a (w.drewN n) := below_drewN h n
theorem ext_later {a w : World} (h : Below a.heap.size a w) (x : Later w) : Below a.heap.size a x.w := below_later h h.size x
theorem ext_setCell {a w : World} (h : Below a.heap.size a w) (p : Addr) (u : Value) (hp : a.heap.size ≤ p.block) : Below a.heap.size a (w.setCell p u) := h.setCell hp u
theorem le_alloc {B : Nat} {w : World} (h : B ≤ w.heap.size) (o : Obj) : B ≤ (w.alloc o).heap.size := by simp; omega
theorem le_later {B : Nat} {w : World} (h : B ≤ w.heap.size) (x : Later w) : B ≤ x.w.heap.size := Nat.le_trans h x.below.size
theorem le_drew {B : Nat} {w : World} (h : B ≤ w.heap.size) : B ≤ w.drew.heap.size := h

/-- A call that hands back v and makes new memory alone. -/
def Gives (P : Program) (f : FuncId) (args : Array Value) (w : World) (v : Value) : Prop := Calls P f args w fun e w' => e = .returned v ∧ ∃ x : Later w, w' = x.w

theorem Gives.mono' {P : Program} {f : FuncId} {args : Array Value} {w : World} {v : Value} (h : Gives P f args w v) {Q : Ending → World → Prop} (hQ : ∀ x : Later w, Q (.returned v) x.w) : Calls P f args w Q :=
  Calls.mono h fun _ _ ⟨he, x, hx⟩ => by rw [he, hx]; exact hQ x
/-- The same at a world that is later than W already: behind the call it is later than W again (so worlds do not nest). -/
theorem Gives.on {P : Program} {f : FuncId} {args : Array Value} {W : World} {y : Later W} {v : Value} (h : Gives P f args y.w v) {Q : Ending → World → Prop} (hQ : ∀ x : Later W, Q (.returned v) x.w) : Calls P f args y.w Q :=
  Calls.mono h fun _ _ ⟨he, x, hx⟩ => by rw [he, hx]; exact hQ ⟨x.w, y.below.trans (x.below.mono y.below.size)⟩
theorem gives_same {P : Program} {f : FuncId} {args : Array Value} {w : World} {v : Value} (h : Calls P f args w fun e w' => e = .returned v ∧ w' = w) : Gives P f args w v :=
  Calls.mono h fun _ _ ⟨he, hw⟩ => ⟨he, Later.ex (by rw [hw]; exact Below.refl _ _)⟩
theorem gives_same' {P : Program} {f : FuncId} {args : Array Value} {w : World} {v : Value} (h : Calls P f args w fun e w' => e = .returned v ∧ w = w') : Gives P f args w v :=
  Calls.mono h fun _ _ ⟨he, hw⟩ => ⟨he, Later.ex (by rw [← hw]; exact Below.refl _ _)⟩
theorem below_grow {B : Nat} {a w : World} (h : Below B a w) (hB : B ≤ w.heap.size) (os : Array Obj) : Below B a (Sort.grow w os) :=
  h.trans ⟨rfl, rfl, rfl, by simp, fun k hk => by
    show (w.heap ++ os)[k]? = w.heap[k]?
    rw [Array.getElem?_append_left (by omega)]⟩
theorem gives_grow {P : Program} {f : FuncId} {args : Array Value} {w : World} {v : Value} (h : Calls P f args w fun e w' => e = .returned v ∧ ∃ k os, w' = Sort.grow (w.drewN k) os) : Gives P f args w v :=
  Calls.mono h fun _ _ ⟨he, k, os, hw⟩ => ⟨he, Later.ex (by rw [hw]; exact below_grow (below_drewN (Below.refl _ _) k) (Nat.le_refl _) os)⟩
theorem Gives.cast {P : Program} {f : FuncId} {args : Array Value} {w : World} {v v' : Value} (h : Gives P f args w v) (e : v = v') : Gives P f args w v' := e ▸ h

/-- Inside a region that draws its order: the contract at a later world. -/
theorem later_of {P : Program} {f : FuncId} {args : Array Value} {W : World} {x : Later W} {v : Value} (h : Gives P f args x.w v) : Calls P f args x.w fun e w'' => e = .returned v ∧ ∃ y : Later W, w'' = y.w :=
  Calls.mono h fun _ _ ⟨he, y, hy⟩ => ⟨he, Later.ex (by rw [hy]; exact x.below.trans (y.below.mono x.below.size))⟩

/-- A region that draws its order, whose operations only read and whose callees make new memory alone, walked in the order of the text. -/
theorem wp_region_later {P : Program} {id : Nat} {Q : Exit → Act → World → Prop} {a : Act} {w : World} {l : List Oper} (hm : P.follows .mixedOrders = true) (hB : Region.lexB .any l.toArray = true)
    (h : wpQuiet P l.toArray (fun w' => ∃ x : Later w, w' = x.w) (fun a' => ∀ w', (∃ x : Later w, w' = x.w) → Q .normal a' w') l a) : (Code.region id l.toArray true).wp P Q a w :=
  wp_region_quiet (C := fun w' => ∃ x : Later w, w' = x.w) hm hB (Later.ex (Below.drew (Below.refl _ w))) (by simpa using h)
/-- The same where the region begins at a world that is later than W already. -/
theorem wp_region_later_on {P : Program} {id : Nat} {Q : Exit → Act → World → Prop} {a : Act} {W : World} {x : Later W} {l : List Oper} (hm : P.follows .mixedOrders = true) (hB : Region.lexB .any l.toArray = true)
    (h : wpQuiet P l.toArray (fun w' => ∃ x : Later W, w' = x.w) (fun a' => ∀ w', (∃ x : Later W, w' = x.w) → Q .normal a' w') l a) : (Code.region id l.toArray true).wp P Q a x.w :=
  wp_region_quiet (C := fun w' => ∃ x : Later W, w' = x.w) hm hB (Later.ex x.below.drew) (by simpa using h)
end Go.Proofs.Ytnahhbpaijfpbaa
