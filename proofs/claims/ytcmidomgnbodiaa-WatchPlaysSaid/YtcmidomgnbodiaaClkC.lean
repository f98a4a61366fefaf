/- The landed clock meets the contracts that the laws' walks lean on. -/
import Derived.Test.YtcmidomgnbodiaaClkDue
import Derived.Test.YtcmidomgnbodiaaRefCut
namespace Go.Proofs.Ytcmidomgnbodiaa
open Go Go.RowKit

/-- The landed clock, as the laws see it: its moments in order. -/
def ClkOwn (m : Nat) (L : List Mo) (W : World) (H : Nat → Prop) : Prop := ∃ K, ClkQ m K W H ∧ K.Perm L ∧ IsHeap lessM K.length K
theorem clkOwn_end {m : Nat} {L Y : List Mo} {H : Nat → Prop} {W W' : World} (h : KPut m Y H W W') (hp : Y.Perm L) : WEnd ClkOwn m L H W W' := by
  obtain ⟨K', h1, h2, F', h3, h4, h5⟩ := h
  exact ⟨F', ⟨K', h3, h1.trans hp, h2⟩, h4, h5⟩
theorem clkOwn_later {m : Nat} {L : List Mo} {H : Nat → Prop} {W : World} (h : ClkOwn m L W H) (x : Later W) : WEnd ClkOwn m L H W x.w := by
  obtain ⟨K, h1, h2, h3⟩ := h
  exact clkOwn_end (kPut_later h1 h3 x) h2

theorem set_at {K : List Mo} (ho : OnceM K) {k : Nat} {m : Mo} (hk : K[k]? = some m) (t : Int) : (K.set k ⟨m.n, t⟩).Perm (⟨m.n, t⟩ :: cutM K m.n) := by
  rw [cutM_at ho hk]
  have hl := (List.getElem?_eq_some_iff.1 hk).1
  rw [List.set_eq_take_append_cons_drop, if_pos hl]
  exact List.perm_middle
theorem ix_of {K L : List Mo} (hp : K.Perm L) (ho : OnceM K) (n : Int) : (hasM L n = none ∧ ixM K n = -1) ∨ ∃ (k : Nat) (t : Mo), hasM L n = some t ∧ K[k]? = some t ∧ ixM K n = k ∧ t.n = n := by
  rw [← hasM_perm hp ho n]
  exact ixM_find K n

def clkC : WatC where
  Own := ClkOwn
  owns m L := {
    lt := fun W F ⟨K, h1, _, _⟩ => (clkQ_owns m K).lt W F h1
    kept := fun W W' F ⟨K, h1, h2, h3⟩ hs hk => ⟨K, (clkQ_owns m K).kept W W' F h1 hs hk, h2, h3⟩ }
  new W := (newK_any W).mono fun e w' ⟨he, h1, h2⟩ => ⟨_, _, he, ⟨[], h1, List.Perm.refl _, fun k _ hk => by simp at hk⟩, h2, fun k hk => by have : k = W.heap.size := hk; omega⟩
  set m L H W n t h hf := by
    obtain ⟨K, h1, h2, h3⟩ := h
    have hl : K.length ≤ 1000 := by rw [h2.length_eq]; exact hf.len
    have ho : OnceM K := once_perm' h2.symm hf.once
    cases hm : okM ⟨n, t⟩ with
    | false =>
      refine (setK_bad m n t W hm).mono fun e w' ⟨he, x, hx⟩ => ⟨by rw [hm]; exact he, ?_⟩
      subst hx
      unfold afterSet
      rw [hm]
      exact clkOwn_later ⟨K, h1, h2, h3⟩ x
    | true =>
      have hd : ∀ Y w', Y.Perm (⟨n, t⟩ :: cutM K n) → KPut m Y H W w' → WEnd ClkOwn m (afterSet L ⟨n, t⟩) H W w' := fun Y w' hY hp => by
        unfold afterSet
        rw [hm, if_pos rfl]
        exact clkOwn_end hp (hY.trans (set_perm h2 ⟨n, t⟩))
      rcases ix_of h2 ho n with ⟨hn, ha⟩ | ⟨k, u, hn, hk, ha, hu⟩
      · refine (setK_new m K n t W H h1 h3 hl hm ha).mono fun e w' ⟨he, hp⟩ => ⟨by rw [hm]; exact he, hd _ w' ?_ hp⟩
        rw [cut_none (by rw [hasM_perm h2 ho]; exact hn)]
        exact List.perm_append_singleton _ _
      · refine (setK_again m K n t W H h1 h3 hl hm k u hk hu ha).mono fun e w' ⟨he, hp⟩ => ⟨by rw [hm]; exact he, hd _ w' ?_ hp⟩
        subst hu
        exact set_at ho hk t
  cut m L H W n h hf := by
    obtain ⟨K, h1, h2, h3⟩ := h
    have hl : K.length ≤ 1000 := by rw [h2.length_eq]; exact hf.len
    have ho : OnceM K := once_perm' h2.symm hf.once
    rcases ix_of h2 ho n with ⟨hn, ha⟩ | ⟨k, u, hn, hk, ha, hu⟩
    · refine (cutK_none m K n W H h1 hl ha).mono fun e w' ⟨he, x, hx⟩ => ⟨by rw [hn]; exact he, ?_⟩
      subst hx
      rw [cut_none hn]
      exact clkOwn_later ⟨K, h1, h2, h3⟩ x
    · refine (cutK_one m K n W H h1 h3 hl k u hk ha).mono fun e w' ⟨he, K', hp, hi, F', h4, h5, h6⟩ => ⟨by rw [hn]; exact he, F', ⟨K', h4, ?_, hi⟩, h5, h6⟩
      exact List.Perm.cons_inv ((hp.trans h2).trans (cut_split hf.once hn))
  due m L H W now h hf := by
    obtain ⟨K, h1, h2, h3⟩ := h
    refine (dueK_any m L now W H K h1 h2 h3 hf.sorted hf.len).mono ?_
    rintro e w' ⟨v, done, K', H', he, rfl, hd⟩
    obtain ⟨pv, cv, rfl, _⟩ := ownsRow_formE hd.row
    have hl : (dueM L now).length = ((dueM L now).map Mo.n).length := by rw [List.length_map]
    have hr := row_rebase hd.row fun b hb => (hd.own b hb).1
    have ho := hd.own
    rw [hl] at he hr ho
    exact ⟨pv, cv, H', he, hr, ⟨K', hd.clock, hd.perm, hd.heap⟩, hd.fr, hd.sub, fun k hk e => (ho k e).2 hk⟩
  at' m L H W n h hf := by
    obtain ⟨K, h1, h2, h3⟩ := h
    have hl : K.length ≤ 1000 := by rw [h2.length_eq]; exact hf.len
    exact (atK_any m K n W H h1 (by omega)).cast (by rw [hasM_perm h2 (once_perm' h2.symm hf.once)])
  len m L H W h hf := by
    obtain ⟨K, h1, h2, h3⟩ := h
    exact (lenK_any m K W H h1).cast (by rw [h2.length_eq])
  set0 W n t := setK_nil n t W
  cut0 W n := cutK_nil n W
  due0 W now := dueK_nil now W
  at0 W n := atK_nil n W
  len0 W := lenK_nil W
end Go.Proofs.Ytcmidomgnbodiaa
