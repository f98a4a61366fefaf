/- What was there before a call, kept as it is: the arguments are read from it at any later time. -/
import Derived.Test.YtnahhbpaijfpbaaStar
import Derived.Test.YtnahhbpaijfpbaaLaid
namespace Go.Proofs.Ytnahhbpaijfpbaa
open Go Go.RowKit

/-- The memory that a call found. -/
def OldA (w : World) : Asn := fun W H => w.heap.size ≤ W.heap.size ∧ (∀ k, k < w.heap.size → W.heap[k]? = w.heap[k]?) ∧ ∀ k, H k ↔ k < w.heap.size
theorem oldA_owns (w : World) : Owns (OldA w) := ⟨fun _ _ h k hk => Nat.lt_of_lt_of_le ((h.2.2 k).1 hk) h.1, fun _ _ _ h hs hk => ⟨Nat.le_trans h.1 hs, fun k hl => (hk k ((h.2.2 k).2 hl)).trans (h.2.1 k hl), h.2.2⟩⟩
section
variable {P : Asn} {w W : World} {H : Nat → Prop}
theorem oldA_self (w : World) : OldA w w fun k => k < w.heap.size := ⟨Nat.le_refl _, fun _ _ => rfl, fun _ => .rfl⟩
theorem OldA.row {pr : Program} {α : Type} {E : Elem pr α} {v : Value} {l : List α} (h : OldA w W H) (hv : RowAt E w v l) : RowAt E W v l := hv.kept h.1 fun _ _ _ _ hl he => h.2.1 _ (hv.lt hl he)
theorem OldA.block (h : OldA w W H) {k : Nat} (hk : k < w.heap.size) : W.heap[k]? = w.heap[k]? := h.2.1 k hk
/-- At the beginning. -/
theorem old_start (w : World) : SEnd (OldA w) (fun k => k < w.heap.size) w w := sEnd_refl (oldA_self w)
/-- Beside what the call has made. -/
theorem SEnd.withOld (h : SEnd P (fun _ => False) w W) : SEnd (star (OldA w) P) (fun k => k < w.heap.size) w W := by
  obtain ⟨H', hp, hf, hn⟩ := h
  refine ⟨fun k => k < w.heap.size ∨ H' k, ⟨fun k => k < w.heap.size, H', ⟨hf.size, fun k hk => hf.block k hk (fun h => h), fun _ => .rfl⟩, hp, fun k hk hk' => ?_, fun _ => .rfl⟩, ⟨hf.os, hf.tape, hf.output, hf.size, fun k hk _ => hf.block k hk (fun h => h)⟩, fun k hk => ?_⟩
  · rcases hn k hk' with h | h
    · exact h
    · exact absurd hk (Nat.not_lt.2 h)
  · rcases hk with h | h
    · exact .inl h
    · exact (hn k h).elim (fun h => h.elim) .inr
/-- And set aside again: nothing of it has turned. -/
theorem SEnd.noOld (h : SEnd (star (OldA w) P) (fun k => k < w.heap.size) w W) : SEnd P (fun _ => False) w W := by
  obtain ⟨H', ⟨H1, H2, ho, hp, ha, he⟩, hf, hn⟩ := h
  refine ⟨H2, hp, ⟨hf.os, hf.tape, hf.output, hf.size, fun k hk _ => ho.2.1 k hk⟩, fun k hk => .inr ?_⟩
  refine Nat.le_of_not_lt fun hlt => ha k ((ho.2.2 k).2 hlt) hk
/-- At a law's end: a later world. -/
theorem SEnd.ended (h : SEnd P (fun _ => False) w W) : Below w.heap.size w W := by
  obtain ⟨_, _, hf, _⟩ := h
  exact ⟨hf.os, hf.tape, hf.output, hf.size, fun k hk => hf.block k hk (fun h => h)⟩
theorem SEnd.oldRow {pr : Program} {α : Type} {E : Elem pr α} {v : Value} {l : List α} {H0 : Nat → Prop} {w0 : World} (h : SEnd (star (OldA w) P) H0 w0 W) (hv : RowAt E w v l) : RowAt E W v l := by
  obtain ⟨_, ⟨_, _, ho, _⟩, _⟩ := h
  exact ho.row hv
theorem SEnd.oldBlock {H0 : Nat → Prop} {w0 : World} (h : SEnd (star (OldA w) P) H0 w0 W) {k : Nat} (hk : k < w.heap.size) : W.heap[k]? = w.heap[k]? := by
  obtain ⟨_, ⟨_, _, ho, _⟩, _⟩ := h
  exact ho.block hk
end
end Go.Proofs.Ytnahhbpaijfpbaa
