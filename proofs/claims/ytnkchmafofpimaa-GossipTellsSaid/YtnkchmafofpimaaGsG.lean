/- Objects that grow: what was there before is still in them. -/
import Derived.Test.YtnkchmafofpimaaGsC
namespace Go.Proofs.Ytnkchmafofpimaa
open Go Go.RowKit Go.BigFrame

/-- R holds what B holds, and perhaps more. -/
def Grown (B R : At) : Prop := ∀ W H, R.p W H → ∃ H', B.p W H' ∧ ∀ k, H' k → H k
theorem Grown.refl (B : At) : Grown B B := fun _ H h => ⟨H, h, fun _ h => h⟩
theorem Grown.list {B R : At} (h : Grown B R) (l : List At) : Grown B (listT (R :: l)) := fun W H hs => by
  obtain ⟨H1, H2, h1, _, _, he⟩ := hs
  obtain ⟨H', h', hk⟩ := h W H1 h1
  exact ⟨H', h', fun k q => (he k).2 (.inl (hk k q))⟩
theorem Grown.reads {α : Type} {E : Elem Try.prog α} {B R : At} (h : Grown B R) {v : Value} {xs : List α} (hr : Reads E B v xs) : Reads E R v xs := fun W H hs => by
  obtain ⟨H', h', _⟩ := h W H hs
  exact hr W H' h'
theorem Grown.row {α : Type} {E : Elem Try.prog α} {B R : At} (h : Grown B R) {v : Value} {xs : List α} (hr : ∀ W H, B.p W H → RowAt E W v xs) : ∀ W H, R.p W H → RowAt E W v xs := fun W H hs => by
  obtain ⟨H', h', _⟩ := h W H hs
  exact hr W H' h'
theorem Grown.mem {B R : At} (h : Grown B R) {L : List At} {H0 : Nat → Prop} {w W : World} (hm : Mem (R :: L) H0 w W) : Mem (B :: L) H0 w W := by
  obtain ⟨H, ⟨H1, H2, h1, h2, ha, he⟩, hf, hg⟩ := hm
  obtain ⟨H', h', hk⟩ := h W H1 h1
  exact ⟨fun k => H' k ∨ H2 k, ⟨H', H2, h', h2, fun k q => ha k (hk k q), fun _ => Iff.rfl⟩, hf, fun k q => hg k ((he k).2 (q.imp (hk k) id))⟩
theorem KnowsOf.grown {B R : At} {k : Nat → Rg} {z : Nat → Value} (h : KnowsOf B k z) (g : Grown B R) : KnowsOf R k z := fun i => ⟨g.reads (h i).1, (h i).2⟩
theorem KnowsOf.one {R : At} {k : Nat → Rg} {z : Nat → Value} (h : KnowsOf R k z) : KnowsOf (listT [R]) k z := h.grown ((Grown.refl R).list [])
end Go.Proofs.Ytnkchmafofpimaa
