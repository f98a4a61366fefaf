/- Claims, and claims with how often they were told, as values and cells. -/
import Derived.Test.YtlcmehighgmoeaaRefClaims
import Derived.Test.YtlcmehighgmoeaaSep
namespace Go.Proofs.Ytlcmehighgmoeaa
open Go Go.RowKit

structure Cl where
  n : Int
  i : Int
  h : Int
def Cl.val (c : Cl) : Value := .agg #[.int .i64 c.n, .int .i64 c.i, .int .i64 c.h]
def Cl.zero : Cl := ⟨0, 0, 0⟩
def cmpK (a b : Cl) : Int := cmpC a.i a.h b.i b.h
def mayK (c : Cl) : Bool := mayB c.n c.i c.h
def nothingK (c : Cl) : Bool := nothingB c.i c.h
/-- A claim, and how often it was told. -/
structure Td where
  c : Cl
  n : Nat
def cells4 (t : Td) : List Value := [.int .i64 t.c.n, .int .i64 t.c.i, .int .i64 t.c.h, .int .i64 t.n]
def cellsT (l : List Td) : List Value := l.flatMap cells4
theorem cells4_len (t : Td) : (cells4 t).length = 4 := rfl
theorem cellsT_snoc (l : List Td) (t : Td) : cellsT (l ++ [t]) = cellsT l ++ [.int .i64 t.c.n, .int .i64 t.c.i, .int .i64 t.c.h, .int .i64 t.n] := by simp [cellsT, cells4]
theorem cellsT_len (l : List Td) : (cellsT l).length = l.length * 4 := by
  induction l with
  | nil => rfl
  | cons c l ih => rw [show cellsT (c :: l) = cells4 c ++ cellsT l from rfl, List.length_append, ih, cells4_len, List.length_cons]; omega
theorem cellsT_at (xs : List Td) : ∀ (k : Nat) (t : Td), xs[k]? = some t → (cellsT xs)[k * 4]? = some (.int .i64 t.c.n) ∧ (cellsT xs)[k * 4 + 1]? = some (.int .i64 t.c.i) ∧ (cellsT xs)[k * 4 + 2]? = some (.int .i64 t.c.h) ∧ (cellsT xs)[k * 4 + 3]? = some (.int .i64 t.n) := by
  induction xs with
  | nil => intro k c h; simp at h
  | cons x xs ih =>
    intro k c h
    cases k with
    | zero =>
      simp at h
      subst h
      exact ⟨rfl, rfl, rfl, rfl⟩
    | succ k =>
      have := ih k c (by simpa using h)
      have e : cellsT (x :: xs) = cells4 x ++ cellsT xs := rfl
      have g : ∀ j, (cellsT (x :: xs))[(k + 1) * 4 + j]? = (cellsT xs)[k * 4 + j]? := fun j => by
        rw [e, List.getElem?_append_right (by rw [cells4_len]; omega), cells4_len]
        congr 1
        omega
      exact ⟨(g 0).trans this.1, (g 1).trans this.2.1, (g 2).trans this.2.2.1, (g 3).trans this.2.2.2⟩

theorem addr_at (g i : Nat) : (⟨g, 0, none⟩ : Addr).add i = ⟨g, i, none⟩ := by unfold Addr.add; split <;> simp_all
/-- Four cells of a new block. -/
theorem cell_four_new (W : World) (x y z u : Value) (t : TypeId) (j : Nat) (v : Value) (h : [x, y, z, u][j]? = some v) : (W.alloc (.cells #[x, y, z, u] t)).cell? ((⟨W.heap.size, 0, none⟩ : Addr).add j) = some v := by
  have hb := heap_alloc_new W (.cells #[x, y, z, u] t)
  rw [addr_at]
  simp only [World.cell?, hb]
  simpa using h

/-- Element k of a row, exchanged. -/
theorem row_set {W : World} {g cap : Nat} {cur : Array Value} {T : TypeId} {L : List Td} {k : Nat} (t : Td) (hg : W.heap[g]? = some (.cells cur T (0, 0))) (hs : cur.size = cap * 4) (hc : L.length ≤ cap) (hk : k < L.length)
    (ht : cur.toList.take (L.length * 4) = cellsT L) :
    ∃ cur', ((((W.setCell ⟨g, k * 4, none⟩ (.int .i64 t.c.n)).setCell ⟨g, k * 4 + 1, none⟩ (.int .i64 t.c.i)).setCell ⟨g, k * 4 + 2, none⟩ (.int .i64 t.c.h)).setCell ⟨g, k * 4 + 3, none⟩ (.int .i64 t.n)).heap[g]? = some (.cells cur' T (0, 0)) ∧
      cur'.size = cap * 4 ∧ cur'.toList.take ((L.set k t).length * 4) = cellsT (L.set k t) := by
  have h1 := heap_setCell_same W g (k * 4) _ _ (.int .i64 t.c.n) hg
  have h2 := heap_setCell_same _ g (k * 4 + 1) _ _ (.int .i64 t.c.i) h1
  have h3 := heap_setCell_same _ g (k * 4 + 2) _ _ (.int .i64 t.c.h) h2
  have h4 := heap_setCell_same _ g (k * 4 + 3) _ _ (.int .i64 t.n) h3
  refine ⟨_, h4, by simp [hs], ?_⟩
  apply List.ext_getElem?
  intro j
  rw [List.length_set]
  by_cases hj : j < L.length * 4
  · obtain ⟨q, r, hr, rfl⟩ : ∃ q r, r < 4 ∧ j = q * 4 + r := ⟨j / 4, j % 4, by omega, by omega⟩
    have hq : q < L.length := by omega
    rw [List.getElem?_take_of_lt hj]
    have hold : cur.toList[q * 4 + r]? = (cellsT L)[q * 4 + r]? := by rw [← ht, List.getElem?_take_of_lt hj]
    have hold' : cur[q * 4 + r]? = (cellsT L)[q * 4 + r]? := by simpa using hold
    by_cases e : q = k
    · subst e
      have hset : (L.set q t)[q]? = some t := by simp [hq]
      obtain ⟨a0, a1, a2, a3⟩ := cellsT_at _ q t hset
      rcases (by omega : r = 0 ∨ r = 1 ∨ r = 2 ∨ r = 3) with rfl | rfl | rfl | rfl
      · simp only [Nat.add_zero]
        rw [a0]
        have hb : q * 4 < cur.size := by omega
        simp [hb]
      · rw [a1]
        have hb : q * 4 + 1 < cur.size := by omega
        simp [hb]
      · rw [a2]
        have hb : q * 4 + 2 < cur.size := by omega
        simp [hb]
      · rw [a3]
        have hb : q * 4 + 3 < cur.size := by omega
        simp [hb]
    · have hset : (L.set k t)[q]? = some L[q] := by rw [List.getElem?_set_ne (Ne.symm e)]; exact List.getElem?_eq_getElem hq
      obtain ⟨a0, a1, a2, a3⟩ := cellsT_at _ q _ hset
      obtain ⟨b0, b1, b2, b3⟩ := cellsT_at L q _ (List.getElem?_eq_getElem hq)
      have hne : ∀ j, j < 4 → (k * 4 + j) ≠ q * 4 + r := fun j hj => by omega
      have n0 := hne 0 (by omega)
      have n1 := hne 1 (by omega)
      have n2 := hne 2 (by omega)
      have n3 := hne 3 (by omega)
      have hl : (cellsT (L.set k t))[q * 4 + r]? = (cellsT L)[q * 4 + r]? := by
        rcases (by omega : r = 0 ∨ r = 1 ∨ r = 2 ∨ r = 3) with rfl | rfl | rfl | rfl
        · exact a0.trans b0.symm
        · exact a1.trans b1.symm
        · exact a2.trans b2.symm
        · exact a3.trans b3.symm
      rw [hl, ← hold']
      simp only [Nat.add_zero] at n0
      simp [n0, n1, n2, n3]
  · rw [List.getElem?_eq_none (by simp; omega), List.getElem?_eq_none (by rw [cellsT_len, List.length_set]; omega)]
end Go.Proofs.Ytlcmehighgmoeaa
