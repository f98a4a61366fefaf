/- Shuffling, without any program. -/
import Derived.Test.YtnkchmafofpimaaInts
namespace Go.Proofs.Ytnkchmafofpimaa
open Go Go.RowKit

def swapI (l : List Int) (i j : Nat) : List Int :=
  match l[i]?, l[j]? with
  | some x, some y => (l.set i y).set j x
  | _, _ => l
theorem swapI_some {l : List Int} {i j : Nat} {x y : Int} (hi : l[i]? = some x) (hj : l[j]? = some y) : swapI l i j = (l.set i y).set j x := by simp [swapI, hi, hj]
theorem swapI_len (l : List Int) (i j : Nat) : (swapI l i j).length = l.length := by unfold swapI; split <;> simp
theorem swapI_perm (l : List Int) (i j : Nat) : (swapI l i j).Perm l := by
  unfold swapI
  split
  · rename_i x y hi hj
    by_cases e : i = j
    · subst e
      rw [hi] at hj
      obtain rfl := Option.some.inj hj
      obtain ⟨h1, rfl⟩ := List.getElem?_eq_some_iff.1 hi
      simp
    · obtain ⟨h1, rfl⟩ := List.getElem?_eq_some_iff.1 hi
      obtain ⟨h2, rfl⟩ := List.getElem?_eq_some_iff.1 hj
      exact List.set_set_perm h1 h2
  · exact List.Perm.refl _

/-- The next draw. -/
def lcg (x : Int) : Int := (6364136223846793005 * x + 1442695040888963407) % 18446744073709551616
theorem lcg_range (x : Int) : 0 ≤ lcg x ∧ lcg x < 18446744073709551616 := ⟨Int.emod_nonneg _ (by decide), Int.emod_lt_of_pos _ (by decide)⟩
/-- Where the element i goes. -/
def drawn (x : Int) (i : Nat) : Nat := ((x / 8589934592) % ((i : Int) + 1)).toNat
theorem drawn_le (x : Int) (i : Nat) : drawn x i ≤ i := by
  unfold drawn
  have := Int.emod_lt_of_pos (x / 8589934592) (show (0 : Int) < (i : Int) + 1 by omega)
  omega
/-- From index i down to 1. -/
def shufFrom : Nat → Int → List Int → List Int
  | 0, _, l => l
  | i + 1, x, l => shufFrom i (lcg x) (swapI l (i + 1) (drawn (lcg x) (i + 1)))
def shuf (l : List Int) (draw : Int) : List Int := shufFrom ((l.take 64).length - 1) draw (l.take 64)
theorem shufFrom_len : ∀ (i : Nat) (x : Int) (l : List Int), (shufFrom i x l).length = l.length
  | 0, _, _ => rfl
  | i + 1, x, l => by rw [shufFrom, shufFrom_len i, swapI_len]
theorem shufFrom_perm : ∀ (i : Nat) (x : Int) (l : List Int), (shufFrom i x l).Perm l
  | 0, _, _ => List.Perm.refl _
  | i + 1, _x, _l => (shufFrom_perm i _ _).trans (swapI_perm _ _ _)
theorem shuf_perm (l : List Int) (x : Int) : (shuf l x).Perm (l.take 64) := shufFrom_perm _ _ _
theorem shuf_len (l : List Int) (x : Int) : (shuf l x).length = min 64 l.length := by rw [(shuf_perm l x).length_eq, List.length_take]
def some' (l : List Int) (k : Int) (x : Int) : List Int := (shuf l x).take k.toNat

/-- The numbers below k that f names, rising. -/
def peersF (f : Nat → Bool) (k : Nat) : List Int := ((List.range k).filter f).map fun j : Nat => (j : Int)
theorem peersF_hit (f : Nat → Bool) (k : Nat) (h : f k = true) : peersF f (k + 1) = peersF f k ++ [(k : Int)] := by simp [peersF, List.range_succ, h]
theorem peersF_miss (f : Nat → Bool) (k : Nat) (h : f k = false) : peersF f (k + 1) = peersF f k := by simp [peersF, List.range_succ, h]
theorem peersF_len (f : Nat → Bool) (k : Nat) : (peersF f k).length ≤ k := by
  unfold peersF
  rw [List.length_map]
  refine Nat.le_trans (List.length_filter_le _ _) ?_
  simp
theorem peersF_congr {f g : Nat → Bool} {k : Nat} (h : ∀ j, j < k → f j = g j) : peersF f k = peersF g k := by
  unfold peersF
  congr 1
  exact List.filter_congr fun j hj => h j (List.mem_range.1 hj)
def isPeer (l : List Int) (self : Int) (j : Nat) : Bool := l.contains (j : Int) && !((j : Int) == self)
/-- The nodes among l, but for self, rising. -/
def peersOf (l : List Int) (self : Int) : List Int := peersF (isPeer l self) 8
theorem peersOf_len (l : List Int) (self : Int) : (peersOf l self).length ≤ 8 := peersF_len _ _
/-- Who is left of the round, or the next round's order. -/
def leftNow (rest P : List Int) (draw : Int) : List Int := match rest.filter (fun n => P.contains n) with | [] => shuf P draw | x :: r => x :: r
/-- What Next answers and leaves. -/
def nextOf (self : Int) (rest peers : List Int) (draw : Int) : Int × List Int :=
  if peersOf peers self = [] then (-1, rest) else ((leftNow rest (peersOf peers self) draw).headD (-1), (leftNow rest (peersOf peers self) draw).tail)
theorem leftNow_ne {rest P : List Int} {draw : Int} (h : P ≠ []) : leftNow rest P draw ≠ [] := by
  unfold leftNow
  split
  · intro e
    have h1 := shuf_len P draw
    have h2 : P.length ≠ 0 := fun e => h (List.eq_nil_of_length_eq_zero e)
    rw [e, List.length_nil] at h1
    omega
  · intro e; cases e
end Go.Proofs.Ytnkchmafofpimaa
