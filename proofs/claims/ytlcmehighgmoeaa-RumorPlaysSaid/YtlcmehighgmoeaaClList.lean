/- Lists of claims that a call has made itself. -/
import Derived.Test.YtlcmehighgmoeaaTakeMath
import Derived.OwnWalk
import Derived.OneCell
import Derived.RangeFuncBox
import Derived.Laws.AppendOwn
namespace Go.Proofs.Ytlcmehighgmoeaa
open Go Go.RowKit

def cells3 (c : Cl) : List Value := [.int .i64 c.n, .int .i64 c.i, .int .i64 c.h]
def cellsOf (l : List Cl) : List Value := l.flatMap cells3
theorem cellsOf_snoc (l : List Cl) (c : Cl) : cellsOf (l ++ [c]) = cellsOf l ++ [.int .i64 c.n, .int .i64 c.i, .int .i64 c.h] := by simp [cellsOf, cells3]
theorem infoClaim : (Try.prog.info? 28).map (fun i => (i.zero, i.size, i.bytes)) = some (some (.agg #[.int .i64 0, .int .i64 0, .int .i64 0]), 3, 24) := by kernel_rfl
theorem cell_three_new (W : World) (x y z : Value) (t : TypeId) (j : Nat) (u : Value) (h : [x, y, z][j]? = some u) : (W.alloc (.cells #[x, y, z] t)).cell? ((⟨W.heap.size, 0, none⟩ : Addr).add j) = some u := by
  have hb := heap_alloc_new W (.cells #[x, y, z] t)
  rw [addr_at]
  simp only [World.cell?, hb]
  simpa using h
theorem cells3_len (c : Cl) : (cells3 c).length = 3 := rfl
theorem cellsOf_len (l : List Cl) : (cellsOf l).length = l.length * 3 := by
  induction l with
  | nil => rfl
  | cons c l ih => rw [show cellsOf (c :: l) = cells3 c ++ cellsOf l from rfl, List.length_append, ih, cells3_len, List.length_cons]; omega
theorem own_below {W W' w : World} {base : Nat} {e : TypeId} {size : Nat} {v : Value} {k : Nat} {xs : List Value} {B : Nat} (hr : W.ownsRow base e size v k xs) (hB : Below B w W) (hg : W.grownBy W' v.ownBlock) (h1 : B ≤ W.heap.size) (h2 : B ≤ base) : Below B w W' :=
  hB.grown hg h1 (fun j e => Nat.le_trans h2 (hr.lt j e).1)

def lenOf : Value → Nat
  | .slice _ n _ => n
  | _ => 0
theorem ownsRow_form {W : World} {base : Nat} {e : TypeId} {size : Nat} {v : Value} {k : Nat} {xs : List Value} (h : W.ownsRow base e size v k xs) : ∃ p cap, v = .slice p k cap := by
  rcases h.2 with ⟨rfl, rfl⟩ | ⟨g, cap, _, rfl, _⟩
  · exact ⟨_, _, rfl⟩
  · exact ⟨_, _, rfl⟩

/-- The reference's Take, between two rounds. -/
structure TakeInv (w : World) (L : List Td) (n : Int) (O : List Td) (tk : Int → Bool) (v : Value) (W : World) : Prop where
  below : Below w.heap.size w W
  lt : w.heap.size < W.heap.size
  row : W.ownsRow (w.heap.size + 1) 28 3 v O.length (cellsOf (O.map (·.c)))
  tbl : ∀ j : Nat, j < 8 → W.cell? ⟨w.heap.size, j, none⟩ = some (.bool (tk j))
  fz : ∀ j, W.frozen? ⟨w.heap.size, j, none⟩ = false
  picked : Picked L O (leftOf L tk)
  le : (O.length : Int) ≤ max n 0
theorem TakeInv.len {w : World} {L : List Td} {n : Int} {O : List Td} {tk : Int → Bool} {v : Value} {W : World} (h : TakeInv w L n O tk v W) : O.length ≤ L.length := by
  have := h.picked.perm.length_eq
  rw [List.length_append] at this
  omega
theorem TakeInv.later {w : World} {L : List Td} {n : Int} {O : List Td} {tk : Int → Bool} {v : Value} {W : World} (h : TakeInv w L n O tk v W) (x : Later W) : TakeInv w L n O tk v x.w where
  below := h.below.trans (x.below.mono h.below.size)
  lt := Nat.lt_of_lt_of_le h.lt x.below.size
  row := h.row.kept (grownBy_of_below' x.below none) (by cases hv : v.ownBlock <;> simp)
  tbl j hj := (x.below.cell (p := ⟨_, _, none⟩) h.lt).trans (h.tbl j hj)
  fz j := (x.below.frozen (p := ⟨_, _, none⟩) h.lt).trans (h.fz j)
  picked := h.picked
  le := h.le
theorem takeInv_step {w : World} {L : List Td} {n : Int} {O : List Td} {tk : Int → Bool} {v v' : Value} {W W' : World} {u : Td} {j : Nat} {ob : Obj} (h : TakeInv w L n O tk v W) (hj : u.c.n = (j : Int)) (hj8 : j < 8)
    (hp : Picked L (O ++ [u]) (leftOf L (takeN tk u.c.n))) (hle : (O.length : Int) < n)
    (hown : W'.ownsRow (w.heap.size + 1) 28 3 v' (O.length + 1) (cellsOf (O.map (·.c)) ++ [.int .i64 u.c.n, .int .i64 u.c.i, .int .i64 u.c.h])) (hg : ((W.setCell ⟨w.heap.size, j, none⟩ (.bool true)).alloc ob).grownBy W' v.ownBlock) : TakeInv w L n (O ++ [u]) (takeN tk u.c.n) v' W' := by
  have hrow := (ownsRow_setCell_below h.row (a := ⟨w.heap.size, j, none⟩) (Nat.lt_succ_self _) (.bool true)).alloc ob
  have hlt : w.heap.size < ((W.setCell ⟨w.heap.size, j, none⟩ (.bool true)).alloc ob).heap.size := by have := h.lt; simp; omega
  have hne : some w.heap.size ≠ v.ownBlock := fun e => by have := (hrow.lt _ e.symm).1; omega
  have hblk := hg.block _ hlt hne
  have hold : ((W.setCell ⟨w.heap.size, j, none⟩ (.bool true)).alloc ob).heap[w.heap.size]? = (W.setCell ⟨w.heap.size, j, none⟩ (.bool true)).heap[w.heap.size]? := Below.heap_alloc _ _ _ (by have := h.lt; simp; omega)
  have hcell : ∀ i, W'.cell? ⟨w.heap.size, i, none⟩ = (W.setCell ⟨w.heap.size, j, none⟩ (.bool true)).cell? ⟨w.heap.size, i, none⟩ := fun i => by simp only [World.cell?, hblk, hold]
  have hfz : ∀ i, W'.frozen? ⟨w.heap.size, i, none⟩ = (W.setCell ⟨w.heap.size, j, none⟩ (.bool true)).frozen? ⟨w.heap.size, i, none⟩ := fun i => by simp only [World.frozen?, hblk, hold]
  refine ⟨?_, ?_, ?_, ?_, ?_, hp, ?_⟩
  · exact own_below hrow (ext_alloc (ext_setCell h.below _ _ (Nat.le_refl _)) ob) hg (by omega) (by omega)
  · exact Nat.lt_of_lt_of_le hlt hg.size
  · rw [List.map_append, List.map_cons, List.map_nil, cellsOf_snoc, List.length_append]
    exact hown
  · intro i hi
    rw [hcell]
    by_cases e : i = j
    · subst e
      rw [World.cell?_setCell_same _ _ _ (h.tbl i hi)]
      simp [takeN, hj]
    · rw [World.cell?_setCell_other _ _ _ _ (by intro h; simp only [Addr.mk.injEq] at h; omega), h.tbl i hi]
      have : ((i : Int) == u.c.n) = false := by simp [hj]; omega
      simp [takeN, this]
  · intro i
    rw [hfz, World.frozen?_setCell]
    exact h.fz i
  · rw [List.length_append]
    simp
    omega
theorem takeInv_start (w : World) (L : List Td) (n : Int) (T : TypeId) : TakeInv w L n [] (fun _ => false) (.slice none 0 0) (w.alloc (.cells #[.bool false, .bool false, .bool false, .bool false, .bool false, .bool false, .bool false, .bool false] T)) where
  below := ext_alloc (ext_refl w) _
  lt := by simp
  row := World.ownsRow_nil _ _ _ _
  tbl j hj := by
    have hb := heap_alloc_new w (.cells #[.bool false, .bool false, .bool false, .bool false, .bool false, .bool false, .bool false, .bool false] T)
    simp only [World.cell?, hb]
    rcases (by omega : j = 0 ∨ j = 1 ∨ j = 2 ∨ j = 3 ∨ j = 4 ∨ j = 5 ∨ j = 6 ∨ j = 7) with rfl | rfl | rfl | rfl | rfl | rfl | rfl | rfl <;> rfl
  fz j := by
    have hb := heap_alloc_new w (.cells #[.bool false, .bool false, .bool false, .bool false, .bool false, .bool false, .bool false, .bool false] T)
    simp only [World.frozen?, hb]
    simp
  picked := by
    have : leftOf L (fun _ => false) = L := by unfold leftOf; rw [List.filter_eq_self]; intro a _; rfl
    rw [this]
    exact Picked.nil L
  le := by simp; omega
end Go.Proofs.Ytlcmehighgmoeaa
