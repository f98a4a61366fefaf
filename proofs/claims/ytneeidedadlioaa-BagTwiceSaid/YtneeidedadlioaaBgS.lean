/- Where a dot belongs among values; without any program. -/
import Derived.Test.YtneeidedadlioaaBgP
namespace Go.Proofs.Ytneeidedadlioaa
open Go

/-- How many stand ahead of a dot. -/
def posB (d : En) : List Vl → Nat
  | [] => 0
  | y :: l => if cmpE y.1 d < 0 then posB d l + 1 else 0
theorem posB_le (d : En) : ∀ l : List Vl, posB d l ≤ l.length
  | [] => Nat.le_refl _
  | y :: l => by
    have := posB_le d l
    unfold posB
    split
    · rw [List.length_cons]; omega
    · exact Nat.zero_le _
theorem posB_lt {d : En} : ∀ {l : List Vl} {i : Nat} {x : Vl}, l[i]? = some x → i < posB d l → cmpE x.1 d < 0
  | [], _, _, h, _ => by simp at h
  | y :: l, 0, x, h, hi => by
    obtain rfl : y = x := by simpa using h
    unfold posB at hi
    split at hi
    · assumption
    · omega
  | y :: l, i + 1, x, h, hi => by
    unfold posB at hi
    split at hi
    · exact posB_lt (l := l) (i := i) (by simpa using h) (by omega)
    · omega
theorem posB_ge {d : En} : ∀ {l : List Vl} {i : Nat} {x : Vl}, Srt l → l[i]? = some x → posB d l ≤ i → ¬ cmpE x.1 d < 0
  | [], _, _, _, h, _ => by simp at h
  | y :: l, 0, x, _, h, hi => by
    obtain rfl : y = x := by simpa using h
    unfold posB at hi
    split at hi
    · omega
    · assumption
  | y :: l, i + 1, x, hs, h, hi => by
    have h1 := List.pairwise_cons.1 hs
    have hx : l[i]? = some x := by simpa using h
    unfold posB at hi
    split at hi
    · exact posB_ge h1.2 hx (by omega)
    · rename_i hy
      intro hlt
      have hyx : ltV y x := h1.1 x (List.mem_of_getElem? hx)
      have hxd : ltV x (d, x.2) := hlt
      exact hy (ltV_trans hyx hxd)
theorem insB_at (x : Vl) : ∀ l : List Vl, insB x l = l.take (posB x.1 l) ++ x :: l.drop (posB x.1 l)
  | [] => rfl
  | y :: l => by
    unfold insB posB
    split
    · rw [insB_at x l]
      simp
    · simp
theorem heldL_pos {d : En} : ∀ {l : List Vl}, Srt l → (heldL l d = true ↔ ∃ x, l[posB d l]? = some x ∧ cmpE x.1 d = 0)
  | [], _ => by simp [heldL]
  | y :: l, hs => by
    have h1 := List.pairwise_cons.1 hs
    have hc : heldL (y :: l) d = (decide (y.1 = d) || heldL l d) := rfl
    rw [hc, Bool.or_eq_true, decide_eq_true_iff]
    unfold posB
    by_cases hy : cmpE y.1 d < 0
    · rw [if_pos hy]
      have hne : y.1 ≠ d := fun e => by rw [e, cmpE_cmp.self] at hy; omega
      rw [List.getElem?_cons_succ, ← heldL_pos h1.2]
      exact ⟨fun h => h.resolve_left hne, .inr⟩
    · rw [if_neg hy]
      rw [List.getElem?_cons_zero]
      constructor
      · rintro (e | h)
        · exact ⟨y, rfl, by rw [e]; exact cmpE_cmp.self _⟩
        · obtain ⟨x, hx, e⟩ := heldL_iff.1 h
          have := h1.1 x hx
          unfold ltV at this
          rw [e] at this
          exact absurd this hy
      · rintro ⟨x, hx, e⟩
        obtain rfl := Option.some.inj hx
        exact .inl (cmpE_eq' e)
theorem held_ways {d : En} {l : List Vl} (hs : Srt l) : (l.length ≤ posB d l ∧ heldL l d = false) ∨ (∃ y, posB d l < l.length ∧ l[posB d l]? = some y ∧ cmpE y.1 d = 0 ∧ heldL l d = true) ∨ (∃ y, posB d l < l.length ∧ l[posB d l]? = some y ∧ cmpE y.1 d ≠ 0 ∧ heldL l d = false) := by
  rcases Nat.lt_or_ge (posB d l) l.length with h | h
  · obtain ⟨y, hy⟩ : ∃ y, l[posB d l]? = some y := ⟨_, List.getElem?_eq_getElem h⟩
    by_cases hc : cmpE y.1 d = 0
    · exact .inr (.inl ⟨y, h, hy, hc, (heldL_pos hs).2 ⟨y, hy, hc⟩⟩)
    · refine .inr (.inr ⟨y, h, hy, hc, ?_⟩)
      rw [← Bool.not_eq_true, heldL_pos hs]
      rintro ⟨x, hx, e⟩
      rw [hy] at hx
      obtain rfl := Option.some.inj hx
      exact hc e
  · refine .inl ⟨h, ?_⟩
    rw [← Bool.not_eq_true, heldL_pos hs]
    rintro ⟨x, hx, e⟩
    rw [List.getElem?_eq_none h] at hx
    cases hx
theorem srt_take {l : List Vl} (h : Srt l) (n : Nat) : Srt (l.take n) := h.sublist (List.take_sublist _ _)
theorem filter_step {α : Type} {p : α → Bool} {l : List α} {k : Nat} {x : α} (h : l[k]? = some x) : (l.take (k + 1)).filter p = (l.take k).filter p ++ if p x = true then [x] else [] := by
  rw [List.take_add_one, h, List.filter_append]
  congr 1
  show List.filter p [x] = _
  by_cases hp : p x = true
  · rw [if_pos hp, List.filter_cons_of_pos hp]; rfl
  · rw [if_neg hp, List.filter_cons_of_neg hp]; rfl
theorem filter_le {α : Type} (p : α → Bool) (l : List α) (k : Nat) : ((l.take k).filter p).length ≤ l.length := by
  refine Nat.le_trans (List.length_filter_le _ _) ?_
  rw [List.length_take]
  omega
/- What makes a bag, value by value. -/
theorem srt_step {l : List Vl} {k : Nat} {x : Vl} (hs : Srt (l.take k)) (hx : l[k]? = some x) (hp : k = 0 ∨ ∃ y, l[k - 1]? = some y ∧ cmpE y.1 x.1 < 0) : Srt (l.take (k + 1)) := by
  rw [List.take_add_one, hx]
  refine List.pairwise_append.2 ⟨hs, List.pairwise_singleton _ _, fun z hz u hu => ?_⟩
  obtain rfl : u = x := by simpa using hu
  rcases hp with rfl | ⟨y, hy, hlt⟩
  · simp at hz
  · have hk : k ≠ 0 := by
      rintro rfl
      rw [show (0 : Nat) - 1 = 0 from rfl, hx] at hy
      obtain rfl := Option.some.inj hy
      rw [cmpE_cmp.self] at hlt
      omega
    obtain ⟨i, hi⟩ := List.getElem?_of_mem hz
    rw [List.getElem?_take] at hi
    split at hi
    · rename_i hik
      by_cases e : i = k - 1
      · subst e
        rw [hy] at hi
        obtain rfl := Option.some.inj hi
        exact hlt
      · have h1 : (l.take k)[i]? = some z := by rw [List.getElem?_take, if_pos hik]; exact hi
        have h2 : (l.take k)[k - 1]? = some y := by rw [List.getElem?_take, if_pos (by omega)]; exact hy
        obtain ⟨q1, e1⟩ := List.getElem?_eq_some_iff.1 h1
        obtain ⟨q2, e2⟩ := List.getElem?_eq_some_iff.1 h2
        have := List.pairwise_iff_getElem.1 hs i (k - 1) q1 q2 (by omega)
        rw [e1, e2] at this
        exact ltV_trans this hlt
    · cases hi
theorem srt_no {l : List Vl} {k : Nat} {x y : Vl} (hx : l[k]? = some x) (hy : l[k - 1]? = some y) (hk : k ≠ 0) (hn : ¬ cmpE y.1 x.1 < 0) : ¬ Srt l := fun hs => by
  obtain ⟨q1, e1⟩ := List.getElem?_eq_some_iff.1 hx
  obtain ⟨q2, e2⟩ := List.getElem?_eq_some_iff.1 hy
  have := List.pairwise_iff_getElem.1 hs (k - 1) k q2 q1 (by omega)
  rw [e1, e2] at this
  exact hn this
theorem mayB_no1 {b : Bg} (h : mayV b.k = false) : mayB b = false := by unfold mayB; rw [h]; rfl
theorem mayB_no2 {b : Bg} (h : ¬ b.v.length ≤ 32) : mayB b = false := by unfold mayB; rw [decide_eq_false h]; simp
theorem mayB_no3 {b : Bg} {k : Nat} {x : Vl} (hx : b.v[k]? = some x) (h : okV b.k x = false) : mayB b = false := by
  rw [← Bool.not_eq_true]
  intro hm
  have := mayB_iff.1 hm
  have h1 := this.has x (List.mem_of_getElem? hx)
  have h2 := this.sz x (List.mem_of_getElem? hx)
  unfold okV at h
  rw [h1, decide_eq_true h2] at h
  cases h
theorem mayB_no4 {b : Bg} {k : Nat} {x y : Vl} (hx : b.v[k]? = some x) (hy : b.v[k - 1]? = some y) (hk : k ≠ 0) (hn : ¬ cmpE y.1 x.1 < 0) : mayB b = false := by
  rw [← Bool.not_eq_true]
  intro hm
  exact srt_no hx hy hk hn (mayB_iff.1 hm).srt
/-- How far a bag's values may be. -/
def OkT (b : Bg) (k : Nat) : Prop := Srt (b.v.take k) ∧ ∀ x ∈ b.v.take k, okV b.k x = true
theorem okT_zero (b : Bg) : OkT b 0 := ⟨List.Pairwise.nil, fun x hx => by simp at hx⟩
theorem okT_step {b : Bg} {k : Nat} {x : Vl} (h : OkT b k) (hx : b.v[k]? = some x) (ho : okV b.k x = true) (hp : k = 0 ∨ ∃ y, b.v[k - 1]? = some y ∧ cmpE y.1 x.1 < 0) : OkT b (k + 1) := by
  refine ⟨srt_step h.1 hx hp, fun z hz => ?_⟩
  rw [List.take_add_one, hx] at hz
  rcases List.mem_append.1 hz with hz | hz
  · exact h.2 z hz
  · obtain rfl : z = x := by simpa using hz
    exact ho
theorem okT_end {b : Bg} {k : Nat} (h : OkT b k) (hk : b.v.length ≤ k) (h1 : mayV b.k = true) (h2 : b.v.length ≤ 32) : mayB b = true := by
  have h3 := h.1
  have h4 := h.2
  rw [List.take_of_length_le hk] at h3 h4
  unfold mayB
  rw [h1, decide_eq_true h2, decide_eq_true h3, List.all_eq_true.2 h4]
  rfl
end Go.Proofs.Ytneeidedadlioaa
