/- WatchOrder: what its loops keep. -/
import Derived.Test.YtcmidomgnbodiaaWatPlays
import Derived.Test.YtcmidomgnbodiaaWatOrderMath
namespace Go.Proofs.Ytcmidomgnbodiaa
open Go Go.RowKit

/-- Only blocks turn that neither clock reaches. -/
theorem TwoS.foreign {O1 O2 : OwnT} {w W W' : World} {m m' : Nat} {L L' : List Mo} {G F G' : Nat → Prop} (q1 : ∀ m L, Owns (O1 m L)) (q2 : ∀ m L, Owns (O2 m L)) (h : TwoS O1 O2 w m m' L L' G W) (hf : Fr F W W') (hF : ∀ k, F k → G k ∧ w.heap.size ≤ k) (hG : ∀ k, G' k → G k ∨ (W.heap.size ≤ k ∧ k < W'.heap.size)) : TwoS O1 O2 w m m' L L' G' W' := by
  obtain ⟨hf1, hf2, ⟨H, H', ho, ho', ha, hH, hH', hg⟩, hb⟩ := h
  refine ⟨hf1, hf2, ⟨H, H', ?_, ?_, ha, hH, hH', fun k hk => ?_⟩, hb.trans (hf.below hb.size fun k hk => (hF k hk).2)⟩
  · exact (q1 m L).kept W W' H ho hf.size fun k hk => hf.block k ((q1 m L).lt W H ho k hk) fun e => (hg k (hF k e).1).2.1 hk
  · exact (q2 m' L').kept W W' H' ho' hf.size fun k hk => hf.block k ((q2 m' L').lt W H' ho' k hk) fun e => (hg k (hF k e).1).2.2 hk
  · rcases hG k hk with h | ⟨h1, h2⟩
    · exact ⟨Nat.lt_of_lt_of_le (hg k h).1 hf.size, (hg k h).2⟩
    · exact ⟨h2, fun e => by have := (q1 m L).lt W H ho k e; omega, fun e => by have := (q2 m' L').lt W H' ho' k e; omega⟩

def ownB (v : Value) (k : Nat) : Prop := v.ownBlock = some k
/-- Between two steps: what has been due up to now has been collected. -/
structure OrdS (C : WatC) (w : World) (m m' : Nat) (L : List Mo) (now : Int) (v : Value) (W : World) : Prop where
  two : TwoS C.Own C.Own w m m' (restM L now) L (ownB v) W
  got : W.ownsRow 0 3 1 v ((dueM L now).map Mo.n).length (elemI.cells ((dueM L now).map Mo.n))
  own : ∀ g, v.ownBlock = some g → w.heap.size ≤ g
/-- While a step's moments are being collected. -/
structure InS (C : WatC) (w : World) (m m' : Nat) (L : List Mo) (now : Int) (A N : List Int) (u : Value) (r : Nat) (v : Value) (W : World) : Prop where
  two : TwoS C.Own C.Own w m m' (restM L now) L (fun k => ownB v k ∨ ownB u k) W
  got : W.ownsRow 0 3 1 v (A ++ N.take r).length (elemI.cells (A ++ N.take r))
  own : ∀ g, v.ownBlock = some g → w.heap.size ≤ g
  row : W.ownsRow 0 3 1 u N.length (elemI.cells N)
  ne : ∀ g, v.ownBlock = some g → u.ownBlock ≠ some g
section
variable {C : WatC} {w W : World} {m m' : Nat} {L : List Mo} {now : Int} {A N : List Int} {u v : Value} {r : Nat}
theorem row_zero {e : TypeId} {size n base : Nat} {xs : List Value} (h : W.ownsRow base e size v n xs) : W.ownsRow 0 e size v n xs := by
  refine ⟨h.1, ?_⟩
  rcases h.2 with h2 | ⟨g, cap, cur, rfl, _, rest⟩
  · exact .inl h2
  · exact .inr ⟨g, cap, cur, rfl, Nat.zero_le _, rest⟩
theorem OrdS.later (h : OrdS C w m m' L now v W) (x : Later W) : OrdS C w m m' L now v x.w :=
  ⟨TwoS.later C.owns C.owns h.two x, row_keepsE h.got fun g hg => x.below.block g (h.got.lt g hg).2, h.own⟩
theorem InS.later (h : InS C w m m' L now A N u r v W) (x : Later W) : InS C w m m' L now A N u r v x.w :=
  ⟨TwoS.later C.owns C.owns h.two x, row_keepsE h.got fun g hg => x.below.block g (h.got.lt g hg).2, h.own, row_keepsE h.row fun g hg => x.below.block g (h.row.lt g hg).2, h.ne⟩
/-- The first step: what is due at 0. -/
theorem OrdS.first {p : Option Addr} {c : Nat} (hb : Below w.heap.size w W) {W' : World} (hrow : W'.ownsRow W.heap.size 3 1 (.slice p ((dueM L now).map Mo.n).length c) ((dueM L now).map Mo.n).length (elemI.cells ((dueM L now).map Mo.n)))
    (ht : TwoS C.Own C.Own w m m' (restM L now) L (fun k => False ∨ (Value.slice p ((dueM L now).map Mo.n).length c).ownBlock = some k) W') : OrdS C w m m' L now (.slice p ((dueM L now).map Mo.n).length c) W' :=
  ⟨ht.less fun _ h => .inr h, row_zero hrow, fun g hg => Nat.le_trans hb.size (hrow.lt g hg).1⟩
/-- A step's moments, handed out by the first clock. -/
def StepR (C : WatC) (w : World) (m m' : Nat) (L : List Mo) (now : Int) (A N : List Int) (v : Value) (e : Ending) (W' : World) : Prop := ∃ p c, e = .returned (.slice p N.length c) ∧ InS C w m m' L now A N (.slice p N.length c) 0 v W'
theorem OrdS.step (h : OrdS C w m m' L now v W) {now' : Int} (hle : now ≤ now') : Calls Try.prog 13 #[.pointer (some ⟨m, 0, none⟩), .int .i64 now'] W (StepR C w m m' L now' ((dueM L now).map Mo.n) ((dueM (restM L now) now').map Mo.n) v) := by
  refine (due_two C.owns h.two now').mono fun e W' ⟨p, c, he, hrow, ht, hs⟩ => ⟨p, c, he, ?_, ?_, h.own, row_zero hrow, fun g hg e => ?_⟩
  · rw [← rest_step L hle]; exact ht
  · rw [List.take_zero, List.append_nil]
    exact row_keepsE h.got fun g hg => hs.block hg
  · have h1 := (hrow.lt g e).1
    have h2 := (h.got.lt g hg).2
    omega
theorem InS.done {now0 : Int} (h : InS C w m m' L now ((dueM L now0).map Mo.n) N u N.length v W) (hf : FineM L) (hle : now0 ≤ now) (hN : (dueM (restM L now0) now).map Mo.n = N) : OrdS C w m m' L now v W := by
  have e : (dueM L now0).map Mo.n ++ N.take N.length = (dueM L now).map Mo.n := by rw [List.take_length, ← hN]; exact order_got hf hle rfl
  have hg := h.got
  rw [e] at hg
  exact ⟨h.two.less fun _ h => .inl h, hg, h.own⟩
/-- One moment more has been collected. -/
theorem InS.next (h : InS C w m m' L now A N u r v W) {x : Int} (hx : N[r]? = some x) {ob : Obj} {v' : Value} {W' : World} (hown : W'.ownsRow 0 3 1 v' ((A ++ N.take r).length + 1) (elemI.cells (A ++ N.take r) ++ [.int .i64 x])) (hg : (W.alloc ob).grownBy W' v.ownBlock) (hw : ∀ g, v'.ownBlock = some g → v.ownBlock = some g ∨ (W.alloc ob).heap.size ≤ g) : InS C w m m' L now A N u (r + 1) v' W' := by
  have h0 := h.later ⟨_, ext_alloc (ext_refl W) ob⟩
  have hsz : W.heap.size ≤ (W.alloc ob).heap.size := by simp
  refine ⟨TwoS.foreign C.owns C.owns h0.two (F := ownB v) (Fr.of_grownBy hg fun j hj => .inl hj) (fun k hk => ⟨.inl hk, h.own k hk⟩) fun k hk => ?_, ?_, fun g hg' => ?_, row_keepsE h0.row fun g hg' => hg.block g (h0.row.lt g hg').2 fun e => h.ne g e.symm hg', fun g hg' => ?_⟩
  · rcases hk with hk | hk
    · rcases hw k hk with h1 | h1
      · exact .inl (.inl h1)
      · exact .inr ⟨h1, (hown.lt k hk).2⟩
    · exact .inl (.inr hk)
  · rw [take_next hx, ← List.append_assoc, elemI.cells_append, List.length_append]
    exact hown
  · rcases hw g hg' with h1 | h1
    · exact h.own g h1
    · exact Nat.le_trans h.two.below.size (Nat.le_trans hsz h1)
  · rcases hw g hg' with h1 | h1
    · exact h.ne g h1
    · intro e
      have := (h.row.lt g e).2
      omega
end
end Go.Proofs.Ytcmidomgnbodiaa
