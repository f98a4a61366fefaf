/- A range over an iterator that is a method value, or any function value, whose body never leaves early and whose loop variable lies in a box: what the iterator owes, and the statement's rule. The wide fence alone. -/
import Derived.Test.YtbddjhkoikcgjaaView
import Derived.RangeFuncNested
namespace Go.Proofs.Ytbddjhkoikcgjaa
open Go Go.RowKit

/-- What the invariant of a loop abides: new blocks, and the turn of a block from B on that is no cells. -/
def Abide {β : Type} (B : Nat) (I : β → World → Prop) : Prop :=
  ∀ s X Y row, I s X → X.grownBy Y row → (∀ r, row = some r → B ≤ r ∧ ∃ o : Obj, X.heap[r]? = some o ∧ o.isCells = false) → I s Y

/-- The function gf, called with what is bound in front, yield and what it has captured, in a later world, tells xs one by one, whatever is done with each. -/
def Tells {α : Type} (P : Program) (gf : Nat) (fb lb : Array Value) (enc : α → Value) (xs : List α) (w : World) : Prop :=
  ∀ (l : Nat) (J : List α → World → Prop) (W : World), Below w.heap.size w W → (∀ pre X Y, J pre X → X.grownBy Y none → J pre Y) →
    (∀ pre x post W1, xs = pre ++ x :: post → J pre W1 → YieldAt Fence.wide 0 P l #[enc x] W1 fun e W' => e = .returned (.bool true) ∧ J (pre ++ [x]) W') →
    J [] W →
    CallsIn Fence.wide 0 P gf (fb ++ #[.func (.yield l) #[] #[]] ++ lb) W fun e W' => (∃ v, e = .returned v) ∧ J xs W'

/-- A round's end: the body has run through, and kept what is no cells from B on. -/
def RoundEnd (B : Nat) (W : World) (J : World → Prop) (e : Exit) (_ : Act) (W' : World) : Prop := e = .normal ∧ KeepsFrom B W W' ∧ J W'
theorem roundEnd_mk {B : Nat} {W W' : World} {J : World → Prop} {a : Act} (h1 : KeepsFrom B W W') (h2 : J W') : RoundEnd B W J .normal a W' := ⟨rfl, h1, h2⟩

theorem grownBy_none {X Y : World} {row : Option Nat} (h : X.grownBy Y none) : X.grownBy Y row := ⟨h.os, h.tape, h.output, h.size, fun k hk _ => h.block k hk (by simp)⟩

theorem wp_range {α : Type} {P : Program} {g : Operand} {p : Tmp} {assign body : Code} {Q : Exit → Act → World → Prop} {a : Act} {w : World}
    {gf : Nat} {fb lb : Array Value} (hg : a.eval g = .func (.func gf) fb lb) (eg : ∀ args w, (callFunc gf args).run P w = .ok (.enter gf args) w)
    {enc : α → Value} {xs : List α} (hT : Tells P gf fb lb enc xs w) (obj : α → Obj)
    (I : List α → World → Prop) (hI : Abide w.heap.size I) (h0 : I [] w) (a₁ : α → Nat → Act)
    (hassign : ∀ (l : Nat) (x : α) (W : World) (K : Act → World → Prop), K (a₁ x W.heap.size) (W.alloc (obj x)) →
      assign.wpIn (Fence.wide.inRound l) 0 P (Exit.then K (fun _ _ _ => False)) { tmps := a.tmps.setIfInBounds p (enc x), defers := [] } W)
    (hbody : ∀ (l : Nat) (pre : List α) (x : α) (post : List α) (B : Nat) (W : World), xs = pre ++ x :: post → I pre W → W.heap[B]? = some (obj x) → w.heap.size ≤ B →
      body.wpIn (Fence.wide.inRound l) 0 P (RoundEnd w.heap.size W (I (pre ++ [x]))) (a₁ x B) W)
    (hdone : ∀ (D : Nat) (W : World), w.heap.size ≤ D → I xs W → W.heap[D]? = some (.deferred (some [])) → Q .normal { a with defers := { target := .collected D, args := #[] } :: a.defers } W) :
    (Code.rangeFunc g #[p] assign body).wpIn Fence.wide 0 P Q a w := by
  refine wpIn_rangeFunc ?_
  intro fn hfn
  obtain ⟨rec, hrec⟩ : ∃ rec : LoopState → Loop, rec = fun st => { state := st, pending := none, fn, tmps := a.tmps, params := #[p], assign, body, defers := w.heap.size } := ⟨_, rfl⟩
  obtain ⟨W1, hW1⟩ : ∃ W1, (w.alloc (.deferred (some []))).alloc (.loop (rec .ready)) = W1 := ⟨_, rfl⟩
  have hL1 : W1.heap[w.heap.size + 1]? = some (.loop (rec .ready)) := by
    rw [← hW1]; have := heap_alloc_new (w.alloc (.deferred (some []))) (.loop (rec .ready)); rwa [World.size_alloc] at this
  have hK1 : W1.heap[w.heap.size]? = some (.deferred (some [])) := by
    rw [← hW1]; exact (Below.heap_alloc _ _ _ (by simp)).trans (heap_alloc_new w _)
  have hb1 : Below w.heap.size w W1 := by
    rw [← hW1]; exact ((Below.refl _ w).alloc (Nat.le_refl _) _).alloc (by simp) _
  have hI1 : I [] W1 := hI _ w W1 none h0 (grownBy_of_below hb1 _) (fun r e => by cases e)
  refine ⟨w.heap.size + 1, [{ target := .collected w.heap.size, args := #[] }], W1, { target := .fn (.func gf) lb, args := fb ++ #[.func (.yield (w.heap.size + 1)) #[] #[]] }, W1, gf,
    fb ++ #[.func (.yield (w.heap.size + 1)) #[] #[]] ++ lb, W1, ?_, ?_, fun _ _ => trivial, ?_, (fun h => by cases h), ?_⟩
  · rw [← hW1, hrec]; exact run_enterLoop_outer _ _ _ _ _
  · simp only [resolve, hg]
    simp [go_sem]
  · simp [invoke, go_sem, eg]
  · refine (hT (w.heap.size + 1)
      (fun pre W => I pre W ∧ W.heap[w.heap.size + 1]? = some (.loop (rec .ready)) ∧ W.heap[w.heap.size]? = some (.deferred (some [])))
      W1 hb1 ?_ ?_ ⟨hI1, hL1, hK1⟩).mono ?_
    · rintro pre X Y ⟨hi, hl, hk⟩ hg'
      exact ⟨hI _ X Y none hi hg' (fun r e => by cases e), (hg'.block _ (Array.getElem?_eq_some_iff.1 hl).1 (by simp)).trans hl, (hg'.block _ (Array.getElem?_eq_some_iff.1 hk).1 (by simp)).trans hk⟩
    · rintro pre x post W hx ⟨hi, hl, hk⟩
      have hlt : w.heap.size + 1 < W.heap.size := (Array.getElem?_eq_some_iff.1 hl).1
      have hy := run_yield (P := P) (args := #[enc x]) hl (by rw [hrec]; rfl)
      rw [hrec] at hy
      refine ⟨fn, _, assign, body, hy, roundIn_of_wpIn hfn ?_⟩
      have hl' : (W.alloc (obj x)).heap[w.heap.size + 1]? = some (.loop (rec .ready)) := (Below.heap_alloc _ _ _ hlt).trans hl
      have hk' : (W.alloc (obj x)).heap[w.heap.size]? = some (.deferred (some [])) := (Below.heap_alloc _ _ _ (by omega)).trans hk
      obtain ⟨busy, hbusy⟩ : ∃ busy : Loop, busy = { rec .ready with state := .busy } := ⟨_, rfl⟩
      obtain ⟨W2, hW2⟩ : ∃ W2, (W.alloc (obj x)).putObj (w.heap.size + 1) (.loop busy) = W2 := ⟨_, rfl⟩
      have hi2 : I pre W2 := by
        rw [← hW2]
        exact hI _ _ _ (some (w.heap.size + 1)) (hI _ W _ none hi (World.grownBy_alloc W _ none) (fun r e => by cases e)) (grownBy_putObj' _ _ _) (fun r e => by cases e; exact ⟨by omega, _, hl', rfl⟩)
      have hl2 : W2.heap[w.heap.size + 1]? = some (.loop busy) := by rw [← hW2]; exact World.putObj_heap_same (by simp; omega)
      have hk2 : W2.heap[w.heap.size]? = some (.deferred (some [])) := by rw [← hW2]; exact (World.putObj_heap_other (by omega)).trans hk'
      have ho2 : W2.heap[W.heap.size]? = some (obj x) := by rw [← hW2]; exact (World.putObj_heap_other (by omega)).trans (heap_alloc_new W _)
      have hr2 : (Instr.beginRound (w.heap.size + 1)).run P (W.alloc (obj x)) = .ok () W2 := by
        rw [← hW2, hbusy]; exact run_beginRound hl' (by rw [hrec])
      have hb := hbody (w.heap.size + 1) pre x post W.heap.size W2 hx hi2 ho2 (by omega)
      have ha := hassign (w.heap.size + 1) x W (fun a₁ w₁ => ∃ w₂, (Instr.beginRound (w.heap.size + 1)).run P w₁ = .ok () w₂ ∧ body.wpIn (Fence.wide.inRound (w.heap.size + 1)) 0 P (roundPost P (w.heap.size + 1) (fun e W' => e = .returned (.bool true) ∧ I (pre ++ [x]) W' ∧ W'.heap[w.heap.size + 1]? = some (.loop (rec .ready)) ∧ W'.heap[w.heap.size]? = some (.deferred (some [])))) a₁ w₂) ⟨W2, hr2, ?_⟩
      · have hz : (#[p].zip #[enc x]).foldl (fun (t : Array Value) (q : Tmp × Value) => t.setIfInBounds q.1 q.2) a.tmps = a.tmps.setIfInBounds p (enc x) := by simp
        rw [← hz] at ha
        exact ha
      · refine wpIn_mono hb ?_
        rintro e a3 W3 ⟨rfl, hk3, hi3⟩
        have hl3 := hk3.same _ _ (by omega) hl2 rfl
        have hd3 := hk3.same _ _ (Nat.le_refl _) hk2 rfl
        refine ⟨_, _, run_endRound none hl3, rfl, ?_, ?_, ?_⟩
        · exact hI _ _ _ (some (w.heap.size + 1)) hi3 (grownBy_putObj' _ _ _) (fun r e => by cases e; exact ⟨by omega, _, hl3, rfl⟩)
        · have := World.putObj_heap_same (w := W3) (r := w.heap.size + 1) (o := .loop (rec .ready)) (Array.getElem?_eq_some_iff.1 hl3).1
          rw [hbusy]
          rw [hrec] at this ⊢
          exact this
        · exact (World.putObj_heap_other (by omega)).trans hd3
    · rintro e W2 ⟨⟨v, rfl⟩, hi, hl, hk⟩
      have hend := run_endLoop (P := P) hl (by rw [hrec]; simp)
      have hp : (rec .ready).pending = none := by rw [hrec]
      rw [hp] at hend
      exact ⟨none, _, hend, hdone w.heap.size _ (Nat.le_refl _) (hI _ _ _ (some (w.heap.size + 1)) hi (grownBy_putObj' _ _ _) (fun r e => by cases e; exact ⟨by omega, _, hl, rfl⟩)) ((World.putObj_heap_other (by omega)).trans hk)⟩
end Go.Proofs.Ytbddjhkoikcgjaa
