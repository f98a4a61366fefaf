/- Those told least often, the lowest node first: what is taken, and that nothing else can be. -/
import Derived.Test.YtlcmehighgmoeaaCl
namespace Go.Proofs.Ytlcmehighgmoeaa
open Go Go.RowKit

def Td.lt (t u : Td) : Prop := t.n < u.n ∨ (t.n = u.n ∧ t.c.n < u.c.n)
theorem Td.lt_trans {a b c : Td} (h : a.lt b) (k : b.lt c) : a.lt c := by unfold Td.lt at *; omega
theorem Td.lt_asymm {a b : Td} (h : a.lt b) : ¬ b.lt a := by unfold Td.lt at *; omega
theorem Td.lt_total {a b : Td} (h : ¬ a.lt b) (hn : a.c.n ≠ b.c.n) : b.lt a := by unfold Td.lt at *; omega

/-- O is taken of L, rem is left. -/
structure Picked (L O rem : List Td) : Prop where
  perm : (O ++ rem).Perm L
  sorted : O.Pairwise Td.lt
  low : ∀ x ∈ O, ∀ y ∈ rem, x.lt y
theorem Picked.nil (L : List Td) : Picked L [] L := ⟨List.Perm.refl _, List.Pairwise.nil, fun _ h => by simp at h⟩
theorem picked_unique (O : List Td) : ∀ (L L' O' rem rem' : List Td), Picked L O rem → Picked L' O' rem' → L.Perm L' → O.length = O'.length → O = O' ∧ rem.Perm rem' := by
  induction O with
  | nil =>
    intro L L' O' rem rem' h h' hp hl
    obtain rfl : O' = [] := List.eq_nil_of_length_eq_zero hl.symm
    exact ⟨rfl, by simpa using (h.perm.trans hp).trans h'.perm.symm⟩
  | cons x O ih =>
    intro L L' O' rem rem' h h' hp hl
    cases O' with
    | nil => simp at hl
    | cons x' O' =>
      have hp' : (x :: O ++ rem).Perm (x' :: O' ++ rem') := (h.perm.trans hp).trans h'.perm.symm
      have a : x = x' ∨ x'.lt x := by
        have : x ∈ x' :: O' ++ rem' := hp'.subset (by simp)
        rcases List.mem_append.1 this with h1 | h1
        · rcases List.mem_cons.1 h1 with h2 | h2
          · exact .inl h2
          · exact .inr ((List.pairwise_cons.1 h'.sorted).1 x h2)
        · exact .inr (h'.low x' (by simp) x h1)
      have b : x' = x ∨ x.lt x' := by
        have : x' ∈ x :: O ++ rem := hp'.symm.subset (by simp)
        rcases List.mem_append.1 this with h1 | h1
        · rcases List.mem_cons.1 h1 with h2 | h2
          · exact .inl h2
          · exact .inr ((List.pairwise_cons.1 h.sorted).1 x' h2)
        · exact .inr (h.low x (by simp) x' h1)
      obtain rfl : x = x' := by
        rcases a with e | a
        · exact e
        · rcases b with e | b
          · exact e.symm
          · exact absurd b (Td.lt_asymm a)
      have hp2 : (O ++ rem).Perm (O' ++ rem') := by simpa using hp'
      obtain ⟨rfl, hr⟩ := ih (O ++ rem) (O' ++ rem') O' rem rem' ⟨List.Perm.refl _, (List.pairwise_cons.1 h.sorted).2, fun y hy => h.low y (by simp [hy])⟩ ⟨List.Perm.refl _, (List.pairwise_cons.1 h'.sorted).2, fun y hy => h'.low y (by simp [hy])⟩ hp2 (by simpa using hl)
      exact ⟨rfl, hr⟩

/-- Each node once. -/
def Once (L : List Td) : Prop := L.Pairwise fun t u => t.c.n ≠ u.c.n
theorem once_filter (R : List Td) (u : Td) (h : Once R) (hu : u ∈ R) : R.Perm (u :: R.filter fun t => !(t.c.n == u.c.n)) := by
  unfold Once at h
  induction R with
  | nil => simp at hu
  | cons x R ih =>
    rw [List.pairwise_cons] at h
    rcases List.mem_cons.1 hu with rfl | h1
    · have : R.filter (fun t => !(t.c.n == u.c.n)) = R := by
        rw [List.filter_eq_self]
        intro t ht
        have := h.1 t ht
        simp only [Bool.not_eq_true', beq_eq_false_iff_ne, ne_eq]
        exact fun e => this e.symm
      simp [this]
    · have hne : x.c.n ≠ u.c.n := h.1 u h1
      have : (x :: R).filter (fun t => !(t.c.n == u.c.n)) = x :: R.filter (fun t => !(t.c.n == u.c.n)) := by simp [hne]
      rw [this]
      exact ((ih h.2 h1).cons x).trans (List.Perm.swap _ _ _)
theorem Once.sub {L R : List Td} (h : Once L) (hs : R.Sublist L) : Once R := List.Pairwise.sublist hs h

/-- The best of the first k, among those that are not taken. -/
def BestOf (L : List Td) (tk : Int → Bool) (k : Nat) (b : Int) : Prop :=
  (b = -1 ∧ ∀ j, j < k → ∀ t, L[j]? = some t → tk t.c.n = true) ∨
  (∃ (m : Nat) (u : Td), b = m ∧ m < k ∧ L[m]? = some u ∧ tk u.c.n = false ∧ ∀ j, j < k → ∀ t, L[j]? = some t → tk t.c.n = false → ¬ t.lt u)
theorem BestOf.zero (L : List Td) (tk : Int → Bool) : BestOf L tk 0 (-1) := .inl ⟨rfl, fun j hj => by omega⟩
theorem BestOf.skip {L : List Td} {tk : Int → Bool} {k : Nat} {b : Int} {t : Td} (h : BestOf L tk k b) (hk : L[k]? = some t) (ht : tk t.c.n = true) : BestOf L tk (k + 1) b := by
  rcases h with ⟨hb, h⟩ | ⟨m, u, hb, hm, hu, hn, h⟩
  · refine .inl ⟨hb, fun j hj s hs => ?_⟩
    rcases (by omega : j < k ∨ j = k) with h1 | rfl
    · exact h j h1 s hs
    · rw [hk] at hs; obtain rfl := Option.some.inj hs; exact ht
  · refine .inr ⟨m, u, hb, by omega, hu, hn, fun j hj s hs hns => ?_⟩
    rcases (by omega : j < k ∨ j = k) with h1 | rfl
    · exact h j h1 s hs hns
    · rw [hk] at hs; obtain rfl := Option.some.inj hs; rw [ht] at hns; simp at hns
theorem BestOf.first {L : List Td} {tk : Int → Bool} {k : Nat} {t : Td} (h : BestOf L tk k (-1)) (hk : L[k]? = some t) (ht : tk t.c.n = false) : BestOf L tk (k + 1) k := by
  rcases h with ⟨_, h⟩ | ⟨m, u, hb, _⟩
  · refine .inr ⟨k, t, rfl, by omega, hk, ht, fun j hj s hs hns => ?_⟩
    rcases (by omega : j < k ∨ j = k) with h1 | rfl
    · have := h j h1 s hs; rw [this] at hns; simp at hns
    · rw [hk] at hs; obtain rfl := Option.some.inj hs; exact fun e => Td.lt_asymm e e
  · omega
theorem BestOf.better {L : List Td} {tk : Int → Bool} {k m : Nat} {t u : Td} (h : BestOf L tk k m) (hu : L[m]? = some u) (hk : L[k]? = some t) (ht : tk t.c.n = false) (hlt : t.lt u) : BestOf L tk (k + 1) k := by
  rcases h with ⟨hb, h⟩ | ⟨m', u', hb, hm, hu', hn, h⟩
  · omega
  · obtain rfl : m = m' := by omega
    rw [hu] at hu'; obtain rfl := Option.some.inj hu'
    refine .inr ⟨k, t, rfl, by omega, hk, ht, fun j hj s hs hns => ?_⟩
    rcases (by omega : j < k ∨ j = k) with h1 | rfl
    · exact fun e => h j h1 s hs hns (Td.lt_trans e hlt)
    · rw [hk] at hs; obtain rfl := Option.some.inj hs; exact fun e => Td.lt_asymm e e
theorem BestOf.stays {L : List Td} {tk : Int → Bool} {k m : Nat} {t u : Td} (h : BestOf L tk k m) (hu : L[m]? = some u) (hk : L[k]? = some t) (hlt : ¬ t.lt u) : BestOf L tk (k + 1) m := by
  rcases h with ⟨hb, h⟩ | ⟨m', u', hb, hm, hu', hn, h⟩
  · omega
  · obtain rfl : m = m' := by omega
    rw [hu] at hu'; obtain rfl := Option.some.inj hu'
    refine .inr ⟨m, u, rfl, by omega, hu, hn, fun j hj s hs hns => ?_⟩
    rcases (by omega : j < k ∨ j = k) with h1 | rfl
    · exact h j h1 s hs hns
    · rw [hk] at hs; obtain rfl := Option.some.inj hs; exact hlt
/-- What is not taken. -/
def leftOf (L : List Td) (tk : Int → Bool) : List Td := L.filter fun t => !tk t.c.n
def takeN (tk : Int → Bool) (n : Int) : Int → Bool := fun m => tk m || (m == n)
theorem BestOf.picks {L O : List Td} {tk : Int → Bool} {b : Int} (h : BestOf L tk L.length b) (hL : Once L) (hp : Picked L O (leftOf L tk)) (hlen : O.length < L.length) :
    ∃ (m : Nat) (u : Td), b = m ∧ L[m]? = some u ∧ tk u.c.n = false ∧ Picked L (O ++ [u]) (leftOf L (takeN tk u.c.n)) := by
  rcases h with ⟨hb, h⟩ | ⟨m, u, hb, hm, hu, hn, h⟩
  · exfalso
    have : leftOf L tk = [] := by
      unfold leftOf
      rw [List.filter_eq_nil_iff]
      intro t ht
      obtain ⟨j, hj, rfl⟩ := List.getElem_of_mem ht
      simp [h j hj _ (List.getElem?_eq_getElem hj)]
    have hl := hp.perm.length_eq
    rw [this] at hl
    simp at hl
    omega
  · refine ⟨m, u, hb, hu, hn, ?_⟩
    have hmem : u ∈ L := List.mem_of_getElem? hu
    have hleft : u ∈ leftOf L tk := by unfold leftOf; rw [List.mem_filter]; exact ⟨hmem, by simp [hn]⟩
    have he : leftOf L (takeN tk u.c.n) = (leftOf L tk).filter fun t => !(t.c.n == u.c.n) := by
      unfold leftOf takeN
      rw [List.filter_filter]
      congr 1
      funext t
      cases tk t.c.n <;> cases (t.c.n == u.c.n) <;> rfl
    have hperm := once_filter (leftOf L tk) u (hL.sub List.filter_sublist) hleft
    rw [← he] at hperm
    refine ⟨?_, ?_, ?_⟩
    · rw [List.append_assoc]
      exact ((hperm.symm).append_left O).trans hp.perm
    · rw [List.pairwise_append]
      refine ⟨hp.sorted, by simp, fun x hx y hy => ?_⟩
      obtain rfl : y = u := by simpa using hy
      exact hp.low x hx y hleft
    · intro x hx y hy
      have hy' := hy
      rw [he, List.mem_filter] at hy'
      rcases List.mem_append.1 hx with h1 | h1
      · exact hp.low x h1 y hy'.1
      · obtain rfl : x = u := by simpa using h1
        have hyL : y ∈ L := (List.mem_filter.1 hy'.1).1
        have hyt : tk y.c.n = false := by have := (List.mem_filter.1 hy'.1).2; simpa using this
        obtain ⟨j, hj, rfl⟩ := List.getElem_of_mem hyL
        have hnl := h j hj _ (List.getElem?_eq_getElem hj) hyt
        exact Td.lt_total hnl (by simpa using hy'.2)

/-- What is left there behind it. -/
def toldUp (tk : Int → Bool) (t : Td) : Td := if tk t.c.n then ⟨t.c, t.n + 1⟩ else t
def restOf (often : Nat) (tk : Int → Bool) (L : List Td) : List Td := (L.map (toldUp tk)).filter fun t => decide (t.n < often)
theorem restOf_len (often : Nat) (tk : Int → Bool) (L : List Td) : (restOf often tk L).length ≤ L.length := by
  unfold restOf
  exact Nat.le_trans (List.length_filter_le _ _) (by simp)
theorem restOf_up {often : Nat} {tk : Int → Bool} {L : List Td} {k : Nat} {t : Td} (hk : L[k]? = some t) (h : (toldUp tk t).n < often) : restOf often tk (L.take (k + 1)) = restOf often tk (L.take k) ++ [toldUp tk t] := by
  have : L.take (k + 1) = L.take k ++ [t] := by rw [List.take_add_one, hk]; rfl
  rw [this]
  simp [restOf, h]
theorem restOf_out {often : Nat} {tk : Int → Bool} {L : List Td} {k : Nat} {t : Td} (hk : L[k]? = some t) (h : ¬ (toldUp tk t).n < often) : restOf often tk (L.take (k + 1)) = restOf often tk (L.take k) := by
  have : L.take (k + 1) = L.take k ++ [t] := by rw [List.take_add_one, hk]; rfl
  rw [this]
  simp [restOf, h]
theorem restOf_perm {often : Nat} {tk : Int → Bool} {L L' : List Td} (h : L.Perm L') : (restOf often tk L).Perm (restOf often tk L') := (h.map _).filter _
theorem toldUp_node (tk : Int → Bool) (t : Td) : (toldUp tk t).c = t.c := by unfold toldUp; split <;> rfl
theorem restOf_once {often : Nat} {tk : Int → Bool} {L : List Td} (h : Once L) : Once (restOf often tk L) := by
  unfold restOf Once
  refine List.Pairwise.sublist List.filter_sublist ?_
  rw [List.pairwise_map]
  exact List.Pairwise.imp (fun {a b} hab => by rw [toldUp_node, toldUp_node]; exact hab) h
end Go.Proofs.Ytlcmehighgmoeaa
