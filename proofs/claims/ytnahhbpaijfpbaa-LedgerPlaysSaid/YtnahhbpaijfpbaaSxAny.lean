/- Regions in which several operations that make memory may come up in any order: each order is walked, by the steps of XSx. -/
import Derived.Test.YtnahhbpaijfpbaaSxCut
import Derived.Test.YtnahhbpaijfpbaaSxStay
namespace Go.Proofs.Ytnahhbpaijfpbaa
open Go Go.RowKit
section
variable {P : Program} {md : Region.Mode} {s : List Nat} {S : Nat → Prop} {Q : Act → World → Prop} {a : Act} {w : World} {i : Nat}
theorem opT_S {ops : Array Oper} {K : Act → World → Prop} (hi : (ops[i]?).isSome = true) (h : wpS P ops S K [(i, 3)] a w) : opT P ops (GS s S) i K a w := by
  obtain ⟨o, ho⟩ := Option.isSome_iff_exists.1 hi
  have h' : opS P ops S i 3 K a w := h
  unfold opS at h'
  rw [ho] at h'
  dsimp only at h'
  rw [if_neg (by omega), if_pos rfl] at h'
  exact opG_mono (fun x hx => .inr hx) (fun _ _ h => h) h'
theorem wpT_takeS {l : List Oper} {fuel : Nat} {listed : Array Bool} (hs : Region.noSelect l.toArray = true) (hB : takeB md l.toArray s i listed = true) (h : wpS P l.toArray S (fun a' w' => wpT P md l.toArray (GS s S) Q fuel (listed.setIfInBounds i true) a' w') [(i, 2)] a w) : wpT P md l.toArray (GS s S) Q (fuel + 1) listed a w := by
  have h' : opS P l.toArray S i 2 (fun a' w' => wpT P md l.toArray (GS s S) Q fuel (listed.setIfInBounds i true) a' w') a w := h
  unfold opS at h'
  cases ho : l.toArray[i]? with
  | none => rw [ho] at h'; exact h'.elim
  | some o =>
    rw [ho] at h'
    dsimp only at h'
    rw [if_pos (by omega)] at h'
    obtain ⟨v, hv, hk⟩ := h'
    exact take_first hs ho hB (GK.refl S w) hv hk
def allT (P : Program) (md : Region.Mode) (ops : Array Oper) (G : Nat → World → World → Prop) (Q : Act → World → Prop) (fuel : Nat) (listed : Array Bool) (a : Act) (w : World) : List Nat → Prop
  | [] => True
  | j :: js => opT P ops G j (wpT P md ops G Q fuel (listed.setIfInBounds j true)) a w ∧ allT P md ops G Q fuel listed a w js
theorem allT_mem {ops : Array Oper} {G : Nat → World → World → Prop} {fuel : Nat} {listed : Array Bool} : ∀ {js : List Nat}, allT P md ops G Q fuel listed a w js → ∀ j ∈ js, opT P ops G j (wpT P md ops G Q fuel (listed.setIfInBounds j true)) a w
  | j :: js, h, k, hk => by
    rcases List.mem_cons.1 hk with rfl | hk
    · exact h.1
    · exact allT_mem h.2 k hk
theorem allT_nil {ops : Array Oper} {G : Nat → World → World → Prop} {fuel : Nat} {listed : Array Bool} : allT P md ops G Q fuel listed a w [] := trivial
theorem allT_cons {ops : Array Oper} {G : Nat → World → World → Prop} {fuel : Nat} {listed : Array Bool} {j : Nat} {js : List Nat} (h1 : opT P ops G j (wpT P md ops G Q fuel (listed.setIfInBounds j true)) a w) (h2 : allT P md ops G Q fuel listed a w js) : allT P md ops G Q fuel listed a w (j :: js) := ⟨h1, h2⟩
theorem wpT_ready {ops : Array Oper} {G : Nat → World → World → Prop} {fuel : Nat} {listed : Array Bool} (j : Nat) (js : List Nat) (hr : Region.ready md ops listed = j :: js) (h : allT P md ops G Q fuel listed a w (j :: js)) : wpT P md ops G Q (fuel + 1) listed a w :=
  ⟨fun h0 => by (rw [h0] at hr; cases hr), fun k hk => allT_mem h k (by rw [hr] at hk; exact hk)⟩
end
end Go.Proofs.Ytnahhbpaijfpbaa
