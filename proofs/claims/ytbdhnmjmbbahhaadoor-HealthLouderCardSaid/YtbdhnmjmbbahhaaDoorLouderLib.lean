/- Claims in blocks of memory, and how they stay there behind calls, new blocks and stores. -/
import Derived.Test.YtbdhnmjmbbahhaaDoorForms
import Derived.Test.YtbdhnmjmbbahhaaDoorMath
import Derived.Deep.RegionHeld3
import Derived.Deep.DeepCutAuto
namespace Go.Proofs.YtbdhnmjmbbahhaaDoor
open Go Go.RowKit

theorem Later.keep {W : World} (x : Later W) {a : Addr} {v : Value} (h : W.cell? a = some v) : x.w.cell? a = some v := by rw [x.below.cell (World.block_lt_of_cell? W a h)]; exact h
theorem alloc_keep {W : World} {a : Addr} {v : Value} (h : W.cell? a = some v) (o : Obj) : (W.alloc o).cell? a = some v := by rw [World.cell?_alloc_lt _ _ _ (World.block_lt_of_cell? W a h)]; exact h
theorem drew_keep {W : World} {a : Addr} {v : Value} (h : W.cell? a = some v) : W.drew.cell? a = some v := h
theorem set_keep {W : World} {p a : Addr} {u v : Value} (h : W.cell? a = some v) (hne : p ≠ a) : (W.setCell p u).cell? a = some v := by rw [World.cell?_setCell_other W p a u hne]; exact h
theorem set_hit {W : World} {p : Addr} {u v : Value} (h : W.cell? p = some u) : (W.setCell p v).cell? p = some v := by
  exact World.cell?_setCell_same' W p v (by simp [h])
/-- A claim lies in a block. -/
structure ClaimIn (w : World) (b : Nat) (n i h : Int) : Prop where
  c0 : w.cell? ⟨b, 0, none⟩ = some (.int .i64 n)
  c1 : w.cell? ⟨b, 1, none⟩ = some (.int .i64 i)
  c2 : w.cell? ⟨b, 2, none⟩ = some (.int .i64 h)
theorem addr_ne {b b' o o' : Nat} (h : b ≠ b') : (⟨b, o, none⟩ : Addr) ≠ ⟨b', o', none⟩ := fun e => h (by injection e)
theorem off_ne {b o o' : Nat} (h : o ≠ o') : (⟨b, o, none⟩ : Addr) ≠ ⟨b, o', none⟩ := fun e => h (by injection e)
section
variable {W : World} {b : Nat} {n i h : Int}
theorem ClaimIn.later (k : ClaimIn W b n i h) (x : Later W) : ClaimIn x.w b n i h := ⟨x.keep k.c0, x.keep k.c1, x.keep k.c2⟩
theorem ClaimIn.alloc (k : ClaimIn W b n i h) (o : Obj) : ClaimIn (W.alloc o) b n i h := ⟨alloc_keep k.c0 o, alloc_keep k.c1 o, alloc_keep k.c2 o⟩
theorem ClaimIn.drew (k : ClaimIn W b n i h) : ClaimIn W.drew b n i h := ⟨k.c0, k.c1, k.c2⟩
theorem ClaimIn.set {b' o : Nat} {u : Value} (k : ClaimIn W b n i h) (hne : b' ≠ b) : ClaimIn (W.setCell ⟨b', o, none⟩ u) b n i h :=
  ⟨set_keep k.c0 (addr_ne hne), set_keep k.c1 (addr_ne hne), set_keep k.c2 (addr_ne hne)⟩
theorem ClaimIn.lt (k : ClaimIn W b n i h) : b < W.heap.size := World.block_lt_of_cell? W _ k.c0
theorem ClaimIn.new {p0 p1 p2 : Int} (t : TypeId) (e : W.heap.size = b) : ClaimIn (W.alloc (.cells #[.int .i64 p0, .int .i64 p1, .int .i64 p2] t)) b p0 p1 p2 := by
  subst e; exact ⟨by simp [World.cell?_alloc_new], by simp [World.cell?_alloc_new], by simp [World.cell?_alloc_new]⟩
theorem ClaimIn.put {p0 p1 p2 : Int} (k : ClaimIn W b n i h) : ClaimIn (((W.setCell ⟨b, 0, none⟩ (.int .i64 p0)).setCell ⟨b, 1, none⟩ (.int .i64 p1)).setCell ⟨b, 2, none⟩ (.int .i64 p2)) b p0 p1 p2 :=
  ⟨set_keep (set_keep (set_hit k.c0) (off_ne (by decide))) (off_ne (by decide)), set_keep (set_hit (set_keep k.c1 (off_ne (by decide)))) (off_ne (by decide)), set_hit (set_keep (set_keep k.c2 (off_ne (by decide))) (off_ne (by decide)))⟩
end
@[simp, go_sem] theorem Later.eq_no {W : World} (x : Later W) (b : Nat) (h : b < W.heap.size) : (b = x.w.heap.size) = False := eq_false (Nat.ne_of_lt (Nat.lt_of_lt_of_le h x.below.size))
@[simp, go_sem] theorem Later.eq_no' {W : World} (x : Later W) (b : Nat) (h : b < W.heap.size) : (x.w.heap.size = b) = False := eq_false (Nat.ne_of_gt (Nat.lt_of_lt_of_le h x.below.size))
theorem lt_later {W : World} {b : Nat} (h : b < W.heap.size) (x : Later W) : b < x.w.heap.size := Nat.lt_of_lt_of_le h x.below.size
theorem lt_alloc {W : World} {b : Nat} (h : b < W.heap.size) (o : Obj) : b < (W.alloc o).heap.size := by simp; omega
theorem lt_new {W : World} {b : Nat} (h : W.heap.size = b) (o : Obj) : b < (W.alloc o).heap.size := by simp; omega
theorem lt_drew {W : World} {b : Nat} (h : b < W.heap.size) : b < W.drew.heap.size := h
@[simp, go_sem] theorem Later.cell2 {V : World} {y : Later V} {o : Obj} (x : Later (y.w.alloc o)) (a : Addr) (h : a.block < V.heap.size) : x.w.cell? a = V.cell? a := by
  rw [x.below.cell (by simp; exact Nat.lt_succ_of_lt (Nat.lt_of_lt_of_le h y.below.size)), World.cell?_alloc_lt _ _ _ (Nat.lt_of_lt_of_le h y.below.size), y.below.cell h]
@[simp, go_sem] theorem Later.frozen2 {V : World} {y : Later V} {o : Obj} (x : Later (y.w.alloc o)) (a : Addr) (h : a.block < V.heap.size) : x.w.frozen? a = V.frozen? a := by
  have hb : Below V.heap.size V x.w := ((y.below.alloc y.below.size o).trans (x.below.mono (by simp; exact Nat.le_succ_of_le y.below.size)))
  exact hb.frozen h
@[simp, go_sem] theorem Later.lt2 {V : World} {y : Later V} {o : Obj} (x : Later (y.w.alloc o)) (b : Nat) (h : b < V.heap.size) : (b < x.w.heap.size) = True :=
  eq_true (lt_later (lt_alloc (lt_later h y) o) x)
theorem nine_of {W : World} {b1 b2 b3 : Nat} {n1 i1 h1 n2 i2 h2 n3 i3 h3 : Int} (k1 : ClaimIn W b1 n1 i1 h1) (k2 : ClaimIn W b2 n2 i2 h2) (k3 : ClaimIn W b3 n3 i3 h3) :
    W.cell? ⟨b1, 0, none⟩ = some (.int .i64 n1) ∧ W.cell? ⟨b1, 1, none⟩ = some (.int .i64 i1) ∧ W.cell? ⟨b1, 2, none⟩ = some (.int .i64 h1) ∧ W.cell? ⟨b2, 0, none⟩ = some (.int .i64 n2) ∧ W.cell? ⟨b2, 1, none⟩ = some (.int .i64 i2) ∧ W.cell? ⟨b2, 2, none⟩ = some (.int .i64 h2) ∧ W.cell? ⟨b3, 0, none⟩ = some (.int .i64 n3) ∧ W.cell? ⟨b3, 1, none⟩ = some (.int .i64 i3) ∧ W.cell? ⟨b3, 2, none⟩ = some (.int .i64 h3) := ⟨k1.c0, k1.c1, k1.c2, k2.c0, k2.c1, k2.c2, k3.c0, k3.c1, k3.c2⟩
theorem six_of {W : World} {b1 b2 : Nat} {n1 i1 h1 n2 i2 h2 : Int} (k1 : ClaimIn W b1 n1 i1 h1) (k2 : ClaimIn W b2 n2 i2 h2) :
    W.cell? ⟨b1, 0, none⟩ = some (.int .i64 n1) ∧ W.cell? ⟨b1, 1, none⟩ = some (.int .i64 i1) ∧ W.cell? ⟨b1, 2, none⟩ = some (.int .i64 h1) ∧ W.cell? ⟨b2, 0, none⟩ = some (.int .i64 n2) ∧ W.cell? ⟨b2, 1, none⟩ = some (.int .i64 i2) ∧ W.cell? ⟨b2, 2, none⟩ = some (.int .i64 h2) := ⟨k1.c0, k1.c1, k1.c2, k2.c0, k2.c1, k2.c2⟩
/-- What is known behind an assignment of two claims to two new variables. -/
def TwoNew (w : World) (F : World → Prop) (p0 p1 p2 q0 q1 q2 : Int) (s t : Value) (wx : World) : Prop :=
  ∃ g k : Nat, s = .pointer (some ⟨g, 0, none⟩) ∧ t = .pointer (some ⟨k, 0, none⟩) ∧ ClaimIn wx g p0 p1 p2 ∧ ClaimIn wx k q0 q1 q2 ∧ F wx ∧ Below w.heap.size w wx
end Go.Proofs.YtbdhnmjmbbahhaaDoor
