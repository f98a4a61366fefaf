/- How often each claim is told: the numbers. -/
import Derived.Test.YtlcmehighgmoeaaRumCnt
namespace Go.Proofs.Ytlcmehighgmoeaa
open Go Go.RowKit

/-- How much is still to be told. -/
def mu (often : Nat) (R : List Td) : Nat := (R.map fun t => often - t.n).sum
theorem mu_cons (often : Nat) (t : Td) (R : List Td) : mu often (t :: R) = (often - t.n) + mu often R := by simp [mu]
theorem mu_append (often : Nat) (A B : List Td) : mu often (A ++ B) = mu often A + mu often B := by simp [mu]
theorem mu_perm {often : Nat} {A B : List Td} (h : A.Perm B) : mu often A = mu often B := (h.map _).sum_nat
theorem mu_back (often : Nat) (O : List Td) (h : ∀ t ∈ O, t.n < often) : mu often (backOf often O) + O.length = mu often O := by
  induction O with
  | nil => rfl
  | cons t O ih =>
    have ht := h t (by simp)
    have := ih fun u hu => h u (by simp [hu])
    have e : backOf often (t :: O) = (if t.n + 1 < often then [⟨t.c, t.n + 1⟩] else []) ++ backOf often O := by
      unfold backOf
      by_cases hh : t.n + 1 < often <;> simp [hh]
    rw [e, mu_append, mu_cons, List.length_cons]
    by_cases hh : t.n + 1 < often
    · rw [if_pos hh, mu_cons]
      simp [mu] at this ⊢
      omega
    · rw [if_neg hh]
      simp [mu] at this ⊢
      omega
theorem mu_take {often : Nat} {R O rem R' : List Td} (hf : Fine often R) (hp : Picked R O rem) (hr : R'.Perm (rem ++ backOf often O)) : mu often R' + O.length = mu often R := by
  have h1 := mu_back often O fun t ht => (hf.good t (hp.perm.subset (List.mem_append_left _ ht))).2.2
  rw [mu_perm hr, mu_append, ← mu_perm hp.perm, mu_append]
  omega
theorem mu_pos {often : Nat} {R : List Td} (hf : Fine often R) (h : mu often R = 0) : R = [] := by
  cases R with
  | nil => rfl
  | cons t R =>
    have := (hf.good t (by simp)).2.2
    rw [mu_cons] at h
    omega
theorem mu_first {often : Nat} {R : List Td} (h : ∀ t ∈ R, t.n = 0) : mu often R = R.length * often := by
  induction R with
  | nil => simp [mu]
  | cons t R ih =>
    rw [mu_cons, ih fun u hu => h u (by simp [hu]), h t (by simp), List.length_cons, Nat.add_mul]
    omega

/-- None is told twice ahead of another one's first. -/
def Even (R : List Td) : Prop := ∀ t ∈ R, ∀ u ∈ R, t.n ≤ u.n + 1
theorem Even.take {often : Nat} {R O rem R' : List Td} (h : Even R) (hp : Picked R O rem) (hr : R'.Perm (rem ++ backOf often O)) : Even R' := by
  intro t ht u hu
  have hsub : ∀ x ∈ O, x ∈ R := fun x hx => hp.perm.subset (List.mem_append_left _ hx)
  have hsub' : ∀ x ∈ rem, x ∈ R := fun x hx => hp.perm.subset (List.mem_append_right _ hx)
  rcases List.mem_append.1 (hr.subset ht) with h1 | h1 <;> rcases List.mem_append.1 (hr.subset hu) with h2 | h2
  · exact h t (hsub' t h1) u (hsub' u h2)
  · obtain ⟨_, v, hv, _, e⟩ := backOf_mem h2
    have := h t (hsub' t h1) v (hsub v hv)
    omega
  · obtain ⟨_, v, hv, _, e⟩ := backOf_mem h1
    have := hp.low v hv u h2
    unfold Td.lt at this
    omega
  · obtain ⟨_, v, hv, _, e⟩ := backOf_mem h1
    obtain ⟨_, x, hx, _, e'⟩ := backOf_mem h2
    have := h v (hsub v hv) x (hsub x hx)
    omega

def here (R : List Td) (j : Nat) : Int := if (hasOf R (j : Int)).isSome then 1 else 0
/-- How often a node's claim was told so far. -/
def toldOf (often : Nat) (R0 R : List Td) (j : Nat) : Int := match hasOf R (j : Int) with | some t => t.n | none => here R0 j * often
theorem hasOf_none {R : List Td} {n : Int} : hasOf R n = none ↔ ∀ t ∈ R, t.c.n ≠ n := by
  unfold hasOf
  rw [List.find?_eq_none]
  simp
theorem here_mem {R : List Td} {j : Nat} : here R j = 1 ↔ ∃ t ∈ R, t.c.n = (j : Int) := by
  unfold here
  cases hf : hasOf R (j : Int) with
  | none =>
    simp
    intro t ht
    exact hasOf_none.1 hf t ht
  | some t =>
    obtain ⟨h1, h2⟩ := hasOf_mem hf
    simp
    exact ⟨t, h1, h2⟩
theorem here_zero {R : List Td} {j : Nat} : here R j = 0 ↔ ∀ t ∈ R, t.c.n ≠ (j : Int) := by
  unfold here
  rw [← hasOf_none]
  cases hf : hasOf R (j : Int) <;> simp
theorem here_two (R : List Td) (j : Nat) : here R j = 0 ∨ here R j = 1 := by
  unfold here
  split <;> simp
theorem here_step {O : List Td} (_ho : Once O) {i m : Nat} {t : Td} (hi : O[i]? = some t) (hm : t.c.n = (m : Int)) (j : Nat) : here (O.take (i + 1)) j = if j = m then 1 else here (O.take i) j := by
  have e : O.take (i + 1) = O.take i ++ [t] := by rw [List.take_add_one, hi]; rfl
  by_cases hj : j = m
  · subst hj
    rw [if_pos rfl, here_mem, e]
    exact ⟨t, by simp, hm⟩
  · rw [if_neg hj]
    rcases here_two (O.take i) j with h | h
    · rw [h, here_zero, e]
      rw [here_zero] at h
      intro u hu
      rcases List.mem_append.1 hu with h1 | h1
      · exact h u h1
      · obtain rfl : u = t := by simpa using h1
        omega
    · rw [h, here_mem, e]
      obtain ⟨u, hu, hn⟩ := here_mem.1 h
      exact ⟨u, List.mem_append_left _ hu, hn⟩
theorem here_old {O : List Td} (ho : Once O) {i m : Nat} {t : Td} (hi : O[i]? = some t) (hm : t.c.n = (m : Int)) : here (O.take i) m = 0 := by
  rw [here_zero]
  intro u hu
  obtain ⟨k, hk, rfl⟩ := List.getElem_of_mem hu
  rw [List.length_take] at hk
  obtain ⟨hil, rfl⟩ := List.getElem?_eq_some_iff.1 hi
  unfold Once at ho
  rw [List.pairwise_iff_getElem] at ho
  have := ho k i (by omega) hil (by omega)
  rw [List.getElem_take]
  rw [← hm]
  exact this

theorem told_take {often : Nat} {R0 R O rem R' : List Td} (hf : Fine often R) (hp : Picked R O rem) (hr : R'.Perm (rem ++ backOf often O)) (hs : ∀ t ∈ R, ∃ u ∈ R0, u.c.n = t.c.n) (j : Nat) :
    toldOf often R0 R' j = toldOf often R0 R j + here O j := by
  have hf' := hf.take hp hr
  have hO : ∀ x ∈ O, x ∈ R := fun x hx => hp.perm.subset (List.mem_append_left _ hx)
  have hrem : ∀ x ∈ rem, x ∈ R := fun x hx => hp.perm.subset (List.mem_append_right _ hx)
  have hon := once_perm hp.perm.symm hf.once
  unfold Once at hon
  rw [List.pairwise_append] at hon
  rcases here_two O j with h | h
  · rw [h]
    have hno := here_zero.1 h
    cases hR : hasOf R (j : Int) with
    | none =>
      have hR' : hasOf R' (j : Int) = none := by
        rw [hasOf_none] at hR ⊢
        intro t ht
        rcases List.mem_append.1 (hr.subset ht) with h1 | h1
        · exact hR t (hrem t h1)
        · obtain ⟨_, v, hv, e, _⟩ := backOf_mem h1
          rw [e]
          exact hR v (hO v hv)
      unfold toldOf
      rw [hR, hR']
      simp
    | some t =>
      obtain ⟨ht, hn⟩ := hasOf_mem hR
      have htr : t ∈ rem := by
        rcases List.mem_append.1 (hp.perm.symm.subset ht) with h1 | h1
        · exact absurd hn (hno t h1)
        · exact h1
      have hR' := hasOf_once hf'.once (hr.symm.subset (List.mem_append_left _ htr))
      rw [hn] at hR'
      unfold toldOf
      rw [hR, hR']
      simp
  · rw [h]
    obtain ⟨t, ht, hn⟩ := here_mem.1 h
    have hR := hasOf_once hf.once (hO t ht)
    rw [hn] at hR
    have hlt := (hf.good t (hO t ht)).2.2
    by_cases hb : t.n + 1 < often
    · have hm : (⟨t.c, t.n + 1⟩ : Td) ∈ backOf often O := by
        unfold backOf
        rw [List.mem_filter, List.mem_map]
        exact ⟨⟨t, ht, rfl⟩, by simpa using hb⟩
      have hR' := hasOf_once hf'.once (hr.symm.subset (List.mem_append_right _ hm))
      rw [hn] at hR'
      unfold toldOf
      rw [hR, hR']
      simp
    · have hR' : hasOf R' (j : Int) = none := by
        rw [hasOf_none]
        intro u hu e
        rcases List.mem_append.1 (hr.subset hu) with h1 | h1
        · exact hon.2.2 t ht u h1 (hn.trans e.symm)
        · obtain ⟨h2, v, hv, e1, e2⟩ := backOf_mem h1
          have : v = t := by
            have h3 := hasOf_once hf.once (hO v hv)
            rw [← e1, e, hR] at h3
            exact (Option.some.inj h3).symm
          subst this
          omega
      obtain ⟨u, hu, hun⟩ := hs t (hO t ht)
      have h0 : here R0 j = 1 := here_mem.2 ⟨u, hu, hun.trans hn⟩
      unfold toldOf
      rw [hR, hR', h0]
      simp
      omega

/-- The nodes below k. -/
theorem count_step {R : List Td} (ho : Once R) (k : Nat) : ((R.filter fun t => decide (t.c.n < ((k + 1 : Nat) : Int))).length : Int) = (R.filter fun t => decide (t.c.n < (k : Int))).length + (R.filter fun t => decide (t.c.n = (k : Int))).length := by
  induction R with
  | nil => simp
  | cons t R ih =>
    have := ih (List.pairwise_cons.1 ho).2
    simp only [List.filter_cons]
    by_cases h1 : t.c.n < (k : Int)
    · have h2 : t.c.n < (k : Int) + 1 := by omega
      have h3 : ¬ t.c.n = (k : Int) := by omega
      simp [h1, h2, h3] at this ⊢
      omega
    · by_cases h3 : t.c.n = (k : Int)
      · have h2 : (k : Int) < (k : Int) + 1 := by omega
        simp [h3, h2] at this ⊢
        omega
      · have h2 : ¬ t.c.n < (k : Int) + 1 := by omega
        simp [h1, h2, h3] at this ⊢
        omega
theorem count_one {R : List Td} (ho : Once R) (k : Nat) : ((R.filter fun t => decide (t.c.n = (k : Int))).length : Int) = here R k := by
  induction R with
  | nil => simp [here, hasOf]
  | cons t R ih =>
    have h1 := List.pairwise_cons.1 ho
    have := ih h1.2
    rw [List.filter_cons]
    by_cases e : t.c.n = (k : Int)
    · have hz : here R k = 0 := here_zero.2 fun u hu he => h1.1 u hu (e.trans he.symm)
      have ho' : here (t :: R) k = 1 := here_mem.2 ⟨t, by simp, e⟩
      rw [ho', if_pos (by simpa using e), List.length_cons]
      rw [hz] at this
      omega
    · rw [if_neg (by simpa using e), this]
      unfold here hasOf
      rw [List.find?_cons]
      have : (t.c.n == (k : Int)) = false := by simpa using e
      rw [this]
def sumTo (R : List Td) (k : Nat) : Nat := (R.filter fun t => decide (t.c.n < (k : Int))).length
theorem sumTo_step {R : List Td} (ho : Once R) (k : Nat) : (sumTo R (k + 1) : Int) = sumTo R k + here R k := by
  unfold sumTo
  rw [count_step ho, count_one ho]
theorem sumTo_zero {often : Nat} {R : List Td} (hf : Fine often R) : sumTo R 0 = 0 := by
  unfold sumTo
  rw [List.length_eq_zero_iff, List.filter_eq_nil_iff]
  intro t ht
  have := (hf.node ht).1
  simp
  omega
theorem sumTo_eight {often : Nat} {R : List Td} (hf : Fine often R) : sumTo R 8 = R.length := by
  unfold sumTo
  congr 1
  rw [List.filter_eq_self]
  intro t ht
  have := (hf.node ht).2
  simp
  omega
theorem sumTo_le (R : List Td) (k : Nat) : sumTo R k ≤ R.length := List.length_filter_le _ _
theorem told_range {often : Nat} {R0 R : List Td} (hf : Fine often R) (j : Nat) : 0 ≤ toldOf often R0 R j ∧ toldOf often R0 R j ≤ 20 := by
  have hle := hf.le
  unfold toldOf
  cases hh : hasOf R (j : Int) with
  | none =>
    rcases here_two R0 j with h | h <;> rw [h] <;> simp <;> omega
  | some t =>
    have := (hf.good t (hasOf_mem hh).1).2.2
    simp
    omega
/-- The least and the most, over some nodes. -/
def LM (often : Nat) (R : List Td) (a b : Int) : Prop := (a = often ∨ ∃ t ∈ R, a = t.n) ∧ (b = 0 ∨ ∃ t ∈ R, b = t.n)
theorem LM.range {often : Nat} {R : List Td} {a b : Int} (h : LM often R a b) (hf : Fine often R) : 0 ≤ a ∧ a ≤ 20 ∧ 0 ≤ b ∧ b ≤ 20 := by
  have hle := hf.le
  obtain ⟨h1, h2⟩ := h
  refine ⟨?_, ?_, ?_, ?_⟩
  · rcases h1 with h | ⟨t, ht, h⟩ <;> omega
  · rcases h1 with h | ⟨t, ht, h⟩
    · omega
    · have := (hf.good t ht).2.2; omega
  · rcases h2 with h | ⟨t, ht, h⟩ <;> omega
  · rcases h2 with h | ⟨t, ht, h⟩
    · omega
    · have := (hf.good t ht).2.2; omega
theorem LM.even {often : Nat} {R : List Td} {a b : Int} (h : LM often R a b) (hf : Fine often R) (he : Even R) : b ≤ a + 1 := by
  obtain ⟨h1, h2⟩ := h
  rcases h1 with h1 | ⟨t, ht, h1⟩ <;> rcases h2 with h2 | ⟨u, hu, h2⟩
  · omega
  · have := (hf.good u hu).2.2; omega
  · omega
  · have := he u hu t ht; omega
end Go.Proofs.Ytlcmehighgmoeaa
