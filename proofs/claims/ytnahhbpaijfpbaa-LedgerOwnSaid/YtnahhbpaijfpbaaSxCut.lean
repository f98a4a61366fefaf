/- A cut behind a switch: what comes behind it is walked once. -/
import Derived.Test.YtnahhbpaijfpbaaSxLoop
namespace Go.Proofs.Ytnahhbpaijfpbaa
open Go Go.RowKit
section
variable {P : Program} {Q : Exit → Act → World → Prop} {c : Code} {a : Act} {w : World}
/-- A cut: what is behind it is walked once, over letters for the slots that lie ahead of it. -/
theorem wp_cut_F {K : Act → World → Prop} (slots : List Nat) (J : (Nat → Value) → World → Prop) (h1 : c.wp P (Exit.then (fun a' w' => maskF slots a' = maskF slots a ∧ J (fun s => a'.tmps.getD s undef) w') Q) a w)
    (h2 : ∀ vs w', J vs w' → Exit.then K Q .normal (putAll a (slots.map fun s => (s, vs s))) w') : c.wp P (Exit.then K Q) a w :=
  wp_mono h1 fun e a' w' he => by
    cases e with
    | normal =>
      obtain ⟨hm, hj⟩ := he
      have := h2 _ _ hj
      rw [← unmask hm] at this
      exact this
    | _ => exact he
end
end Go.Proofs.Ytnahhbpaijfpbaa
