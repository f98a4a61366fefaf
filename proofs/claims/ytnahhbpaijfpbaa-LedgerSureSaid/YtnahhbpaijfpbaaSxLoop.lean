/- A loop by an invariant over the slots that it writes. -/
import Derived.Test.YtnahhbpaijfpbaaSxMem
namespace Go.Proofs.Ytnahhbpaijfpbaa
open Go Go.RowKit

theorem exists_least {p : Nat → Prop} (h : ∃ n, p n) : ∃ m, p m ∧ ∀ k, p k → m ≤ k := by
  obtain ⟨n, hn⟩ := h
  induction n using Nat.strongRecOn with
  | _ n ih =>
    by_cases hk : ∃ k, k < n ∧ p k
    · obtain ⟨k, hlt, hp⟩ := hk
      exact ih k hlt hp
    · refine ⟨n, hn, fun k hp => ?_⟩
      rcases Nat.lt_or_ge k n with h | h
      · exact absurd ⟨k, h, hp⟩ hk
      · exact h
section
variable {P : Program} {Q : Exit → Act → World → Prop} {c : Code} {a : Act} {w : World}
theorem wp_loop_J (J : Nat → Act → World → Prop) {n0 : Nat} (h0 : J n0 a w) (round : ∀ n a w, J n a w → c.wp P (Exit.then (fun a' w' => ∃ m, m < n ∧ J m a' w') Q) a w) : (Code.loop c).wp P Q a w := by
  classical
  have hl : ∀ a w, (∃ n, J n a w) → ∃ m, J m a w ∧ ∀ k, J k a w → m ≤ k := fun a w h => exists_least h
  let μ : Act → World → Nat := fun a w => if h : ∃ n, J n a w then Classical.choose (hl a w h) else 0
  have hμ : ∀ a w (h : ∃ n, J n a w), J (μ a w) a w ∧ ∀ k, J k a w → μ a w ≤ k := fun a w h => by
    have e : μ a w = Classical.choose (hl a w h) := dif_pos h
    rw [e]
    exact Classical.choose_spec (hl a w h)
  refine wp_loop (fun a w => ∃ n, J n a w) μ ⟨n0, h0⟩ fun a w h => ?_
  obtain ⟨h1, _⟩ := hμ a w h
  refine wp_mono (round _ a w h1) fun e a' w' he => ?_
  cases e with
  | normal =>
    obtain ⟨m, hm, hj⟩ := he
    exact ⟨⟨m, hj⟩, Nat.lt_of_le_of_lt ((hμ a' w' ⟨m, hj⟩).2 m hj) hm⟩
  | _ => exact he

def putAll (a : Act) : List (Nat × Value) → Act
  | [] => a
  | (s, v) :: r => putAll (a.put (some s) v) r
def maskF (slots : List Nat) (a : Act) : Act := putAll a (slots.map fun s => (s, undef))
theorem putAll_tmps : ∀ (l : List (Nat × Value)) (a : Act), (putAll a l).defers = a.defers ∧ (putAll a l).tmps.size = a.tmps.size ∧ ∀ j, (∀ x ∈ l, x.1 ≠ j) → (putAll a l).tmps[j]? = a.tmps[j]?
  | [], a => ⟨rfl, rfl, fun _ _ => rfl⟩
  | (s, v) :: r, a => by
    obtain ⟨h1, h2, h3⟩ := putAll_tmps r (a.put (some s) v)
    refine ⟨h1, by rw [putAll, h2]; simp [Act.put], fun j hj => ?_⟩
    rw [putAll, h3 j fun x hx => hj x (List.mem_cons_of_mem _ hx)]
    have : s ≠ j := hj _ List.mem_cons_self
    simp [Act.put, Array.getElem?_setIfInBounds_ne this]
theorem putAll_in (vs : Nat → Value) : ∀ (slots : List Nat) (a : Act) (j : Nat), j ∈ slots → j < a.tmps.size → (putAll a (slots.map fun s => (s, vs s))).tmps[j]? = some (vs j)
  | [], _, _, h, _ => by simp at h
  | s :: r, a, j, h, hl => by
    rw [List.map_cons, putAll]
    by_cases hr : j ∈ r
    · exact putAll_in vs r _ j hr (by simpa [Act.put] using hl)
    · have hs : s = j := by
        rcases List.mem_cons.1 h with e | e
        · exact e.symm
        · exact absurd e hr
      subst hs
      rw [(putAll_tmps _ _).2.2 s (by rintro x hx rfl; obtain ⟨y, hy, e⟩ := List.mem_map.1 hx; subst e; exact hr hy)]
      simp [Act.put, hl]
theorem unmask {slots : List Nat} {a a0 : Act} (h : maskF slots a = maskF slots a0) : a = putAll a0 (slots.map fun s => (s, a.tmps.getD s undef)) := by
  have hA := putAll_tmps (slots.map fun s => (s, undef)) a
  have h0 := putAll_tmps (slots.map fun s => (s, undef)) a0
  have hv := putAll_tmps (slots.map fun s => (s, a.tmps.getD s undef)) a0
  have hsz : a.tmps.size = a0.tmps.size := by
    have := congrArg (fun x => x.tmps.size) h
    simp only [maskF] at this
    rw [hA.2.1, h0.2.1] at this
    exact this
  have hdf : a.defers = a0.defers := by
    have := congrArg (fun x => x.defers) h
    simp only [maskF] at this
    rw [hA.1, h0.1] at this
    exact this
  have ht : a.tmps = (putAll a0 (slots.map fun s => (s, a.tmps.getD s undef))).tmps := by
    apply Array.ext_getElem?
    intro j
    by_cases hj : j ∈ slots
    · by_cases hlt : j < a.tmps.size
      · rw [putAll_in (fun s => a.tmps.getD s undef) slots a0 j hj (by omega)]
        simp [hlt]
      · rw [Array.getElem?_eq_none (by omega), Array.getElem?_eq_none (by rw [hv.2.1]; omega)]
    · have hne : ∀ (f : Nat → Value), ∀ x ∈ slots.map (fun s => (s, f s)), x.1 ≠ j := by
        rintro f x hx rfl
        obtain ⟨y, hy, e⟩ := List.mem_map.1 hx
        subst e
        exact hj hy
      rw [hv.2.2 j (hne _)]
      have := congrArg (fun x => x.tmps[j]?) h
      simp only [maskF] at this
      rw [hA.2.2 j (hne fun _ => undef), h0.2.2 j (hne fun _ => undef)] at this
      exact this
  have ext : ∀ x y : Act, x.tmps = y.tmps → x.defers = y.defers → x = y := by
    rintro ⟨_, _⟩ ⟨_, _⟩ h1 h2
    simp only at h1 h2
    rw [h1, h2]
  exact ext _ _ ht (hdf.trans hv.1.symm)
/-- The invariant J speaks of the slots that the loop writes, by the frame; all other slots are as at the entry. -/
theorem wp_loop_F (slots : List Nat) (J : Nat → (Nat → Value) → World → Prop) {n0 : Nat} (h0 : J n0 (fun s => a.tmps.getD s undef) w)
    (round : ∀ n (vs : Nat → Value) w', J n vs w' → c.wp P (Exit.then (fun a' w'' => maskF slots a' = maskF slots a ∧ ∃ m, m < n ∧ J m (fun s => a'.tmps.getD s undef) w'') Q) (putAll a (slots.map fun s => (s, vs s))) w') : (Code.loop c).wp P Q a w := by
  refine wp_loop_J (fun n a' w' => maskF slots a' = maskF slots a ∧ J n (fun s => a'.tmps.getD s undef) w') (n0 := n0) ⟨rfl, h0⟩ fun n a' w' ⟨hm, hj⟩ => ?_
  have := round n _ w' hj
  rw [← unmask hm] at this
  exact wp_mono this fun e a'' w'' he => by
    cases e with
    | normal =>
      obtain ⟨h1, m, h2, h3⟩ := he
      exact ⟨m, h2, h1, h3⟩
    | _ => exact he
end
end Go.Proofs.Ytnahhbpaijfpbaa
