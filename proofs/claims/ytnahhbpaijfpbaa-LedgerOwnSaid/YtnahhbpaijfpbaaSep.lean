/- Objects and the blocks that they own: what a step on one of them keeps of the others. -/
import Derived.Test.YtnahhbpaijfpbaaLater
import Derived.RangeFuncNested
namespace Go.Proofs.Ytnahhbpaijfpbaa
open Go Go.RowKit

theorem grownBy_of_below' {W W' : World} (hb : Below W.heap.size W W') (row : Option Nat) : W.grownBy W' row := ⟨hb.os, hb.tape, hb.output, hb.size, fun k hk _ => hb.block k hk⟩

/-- From W to W' nothing has turned but blocks of F, and new ones. -/
structure Fr (F : Nat → Prop) (W W' : World) : Prop where
  os : W'.os = W.os
  tape : W'.tape = W.tape
  output : W'.output = W.output
  size : W.heap.size ≤ W'.heap.size
  block : ∀ k, k < W.heap.size → ¬ F k → W'.heap[k]? = W.heap[k]?
theorem Fr.refl (F : Nat → Prop) (W : World) : Fr F W W := ⟨rfl, rfl, rfl, Nat.le_refl _, fun _ _ _ => rfl⟩
theorem Fr.trans {F G : Nat → Prop} {A B C : World} (h : Fr F A B) (k : Fr G B C) (hg : ∀ j, G j → F j ∨ A.heap.size ≤ j) : Fr F A C :=
  ⟨k.os.trans h.os, k.tape.trans h.tape, k.output.trans h.output, Nat.le_trans h.size k.size, fun j hj hn => (k.block j (Nat.lt_of_lt_of_le hj h.size) (fun e => by rcases hg j e with h1 | h1 <;> first | exact hn h1 | omega)).trans (h.block j hj hn)⟩
theorem Fr.of_below {F : Nat → Prop} {W W' : World} (h : Below W.heap.size W W') : Fr F W W' := ⟨h.os, h.tape, h.output, h.size, fun k hk _ => h.block k hk⟩
theorem Fr.of_grownBy {F : Nat → Prop} {W W' : World} {row : Option Nat} (h : W.grownBy W' row) (hr : ∀ j, row = some j → F j ∨ W.heap.size ≤ j) : Fr F W W' :=
  ⟨h.os, h.tape, h.output, h.size, fun k hk hn => h.block k hk (fun e => by rcases hr k e.symm with h1 | h1 <;> first | exact hn h1 | omega)⟩
theorem Fr.alloc {F : Nat → Prop} {W W' : World} (h : Fr F W W') (o : Obj) : Fr F W (W'.alloc o) := h.trans (G := F) (Fr.of_below ((Below.refl _ _).alloc (Nat.le_refl _) _)) fun _ hj => .inl hj
theorem Fr.drew {F : Nat → Prop} {W W' : World} (h : Fr F W W') : Fr F W W'.drew := ⟨h.os, h.tape, h.output, h.size, h.block⟩
theorem Fr.later {F : Nat → Prop} {W W' : World} (h : Fr F W W') (x : Later W') : Fr F W x.w := h.trans (G := F) (Fr.of_below x.below) fun _ hj => .inl hj
theorem Fr.set {F : Nat → Prop} {W W' : World} (h : Fr F W W') (b o : Nat) (v : Value) (hb : F b ∨ W.heap.size ≤ b) : Fr F W (W'.setCell ⟨b, o, none⟩ v) :=
  ⟨h.os, h.tape, h.output, Nat.le_trans h.size (by simp [World.setCell]), fun k hk hn => (Below.heap_setCell _ _ _ k (fun e => by subst e; rcases hb with h1 | h1 <;> first | exact hn h1 | omega)).trans (h.block k hk hn)⟩
/-- Where the blocks that may turn are all new, nothing that was there has turned. -/
theorem Fr.below {F : Nat → Prop} {W W' : World} {B : Nat} (h : Fr F W W') (hB : B ≤ W.heap.size) (hF : ∀ j, F j → B ≤ j) : Below B W W' :=
  ⟨h.os, h.tape, h.output, h.size, fun k hk => h.block k (by omega) (fun e => by have := hF k e; omega)⟩

/-- An object's blocks: they are there, and what they hold says all of it. -/
structure Owns (P : World → (Nat → Prop) → Prop) : Prop where
  lt : ∀ W F, P W F → ∀ k, F k → k < W.heap.size
  kept : ∀ W W' F, P W F → W.heap.size ≤ W'.heap.size → (∀ k, F k → W'.heap[k]? = W.heap[k]?) → P W' F
def Apart (F G : Nat → Prop) : Prop := ∀ k, F k → ¬ G k
theorem Owns.stays {P : World → (Nat → Prop) → Prop} (hP : Owns P) {W W' : World} {F G : Nat → Prop} (h : P W F) (hf : Fr G W W') (ha : Apart F G) : P W' F :=
  hP.kept W W' F h hf.size fun k hk => hf.block k (hP.lt W F h k hk) (ha k hk)
/-- What has grown stays apart from what was there. -/
theorem apart_grown {F G G' : Nat → Prop} {W : World} (ha : Apart F G) (hlt : ∀ k, F k → k < W.heap.size) (hg : ∀ k, G' k → G k ∨ W.heap.size ≤ k) : Apart F G' := fun k hk hk' => by
  rcases hg k hk' with h | h
  · exact ha k hk h
  · have := hlt k hk; omega
end Go.Proofs.Ytnahhbpaijfpbaa
