/- What views hold, without any program: the least upper bound of what was heard of each node. -/
import Derived.Test.YtbddjhkoikcgjaaHeard
namespace Go.Proofs.Ytbddjhkoikcgjaa
open Go Go.RowKit

def kle (x y : Cl) : Prop := cmpK x y ≤ 0
theorem kle_refl (x : Cl) : kle x x := by unfold kle cmpK; rw [cmpC_self]; omega
theorem kle_trans {x y z : Cl} (a : kle x y) (b : kle y z) : kle x z := cmpC_trans a b
theorem kle_total (x y : Cl) : 0 < cmpK x y → kle y x := by
  intro h
  unfold kle cmpK at *
  rw [cmpC_neg]
  omega
theorem kle_iff (x y : Cl) : kle x y ↔ (y.h = 4 ∨ (x.h ≠ 4 ∧ (x.i < y.i ∨ (x.i = y.i ∧ x.h ≤ y.h)))) := cmpC_le
theorem cmp_zero {x y : Cl} (a : kle x y) (b : kle y x) : cmpK x y = 0 := by
  unfold kle cmpK at *
  rw [cmpC_neg] at b
  omega
theorem mayK_iff (c : Cl) : mayK c = true ↔ ((0 ≤ c.n ∧ c.n < 8) ∧ ((c.i = 0 ∧ c.h = 0) ∨ ((0 ≤ c.i ∧ c.i ≤ 1000000) ∧ 1 ≤ c.h ∧ c.h ≤ 4))) := by simp [mayK, mayB]

/-- A claim of node k that counts. -/
def Of (k : Nat) (c : Cl) : Prop := mayK c = true ∧ c.n.toNat = k

theorem hearV_other (V : Vw) (c : Cl) (k : Nat) (h : ¬ Of k c) : hearV V c k = V k := by
  unfold hearV
  split
  · rename_i hb
    have hm : mayK c = true := by
      unfold heardB at hb
      simp at hb
      exact hb.1
    unfold putV
    rw [if_neg]
    intro e
    exact h ⟨hm, e.symm⟩
  · rfl
theorem hearV_lub (V : Vw) (c : Cl) (k : Nat) (y : Cl) : kle (hearV V c k) y ↔ kle (V k) y ∧ (Of k c → kle c y) := by
  by_cases h : Of k c
  · obtain ⟨hm, rfl⟩ := h
    by_cases hb : 0 < cmpK c (V c.n.toNat)
    · have e : hearV V c c.n.toNat = c := by
        unfold hearV heardB
        rw [if_pos (by simp [hm, hb])]
        simp [putV]
      rw [e]
      exact ⟨fun hy => ⟨kle_trans (kle_total _ _ hb) hy, fun _ => hy⟩, fun hy => hy.2 ⟨hm, rfl⟩⟩
    · have e : hearV V c c.n.toNat = V c.n.toNat := by
        unfold hearV heardB
        rw [if_neg (by simp [hb])]
      rw [e]
      exact ⟨fun hy => ⟨hy, fun _ => kle_trans (show kle c _ from (by unfold kle; omega)) hy⟩, fun hy => hy.1⟩
  · rw [hearV_other V c k h]
    exact ⟨fun hy => ⟨hy, fun q => (h q).elim⟩, fun hy => hy.1⟩
theorem hearAll_lub (l : List Cl) : ∀ (V : Vw) (k : Nat) (y : Cl), kle (hearAll V l k) y ↔ kle (V k) y ∧ ∀ c ∈ l, Of k c → kle c y := by
  induction l with
  | nil => intro V k y; simp [hearAll]
  | cons c l ih =>
    intro V k y
    have := ih (hearV V c) k y
    rw [show hearAll V (c :: l) = hearAll (hearV V c) l from rfl, this, hearV_lub]
    simp only [List.mem_cons, forall_eq_or_imp]
    exact and_assoc

/-- A view that came of hearing. -/
def Good (V : Vw) : Prop := ∀ k, k < 8 → (V k = Cl.zero ∨ (Of k (V k) ∧ 1 ≤ (V k).h))
theorem good_empty : Good emptyV := fun _ _ => .inl rfl
theorem good_hear {V : Vw} (h : Good V) (c : Cl) : Good (hearV V c) := by
  intro k hk
  by_cases ho : Of k c
  · obtain ⟨hm, rfl⟩ := ho
    unfold hearV
    split
    · rename_i hb
      have hb2 : 0 < cmpK c (V c.n.toNat) := by
        unfold heardB at hb
        simp at hb
        exact hb.2
      have hput : putV V c c.n.toNat = c := by simp [putV]
      rw [hput]
      refine .inr ⟨⟨hm, rfl⟩, ?_⟩
      have hmc := (mayK_iff c).1 hm
      have hn : ¬ kle c (V c.n.toNat) := by unfold kle; omega
      rw [kle_iff] at hn
      rcases h _ hk with e | ⟨⟨e, _⟩, e2⟩
      · rw [e] at hn
        simp only [Cl.zero] at hn
        omega
      · have := (mayK_iff _).1 e
        omega
    · exact h _ hk
  · rw [hearV_other V c k ho]
    exact h k hk
theorem good_all {V : Vw} (h : Good V) (l : List Cl) : Good (hearAll V l) := by
  induction l generalizing V with
  | nil => exact h
  | cons c l ih => exact ih (good_hear h c)
theorem good_heard (l : List Cl) : Good (heardL l) := good_all good_empty _
theorem good_zero {V : Vw} (h : Good V) {k : Nat} (hk : k < 8) : kle Cl.zero (V k) := by
  rw [kle_iff]
  rcases h k hk with e | ⟨⟨e, _⟩, e2⟩
  · rw [e]; right; simp [Cl.zero]
  · have := (mayK_iff _).1 e
    simp only [Cl.zero]
    omega

theorem mem_said (V : Vw) (c : Cl) : c ∈ saidV V ↔ ∃ k, k < 8 ∧ V k = c ∧ c.h ≠ 0 := by
  simp only [saidV, saidUp, List.mem_filter, List.mem_map, List.mem_range]
  constructor
  · rintro ⟨⟨k, hk, rfl⟩, h⟩
    exact ⟨k, hk, rfl, by simpa using h⟩
  · rintro ⟨k, hk, rfl, h⟩
    exact ⟨⟨k, hk, rfl⟩, by simpa using h⟩

/-- Two views joined: at each node the least upper bound of both. -/
theorem join_lub {C D : Vw} (hC : Good C) (hD : Good D) (k : Nat) (hk : k < 8) (y : Cl) : kle (hearAll C (saidV D) k) y ↔ kle (C k) y ∧ kle (D k) y := by
  rw [hearAll_lub]
  constructor
  · rintro ⟨h1, h2⟩
    refine ⟨h1, ?_⟩
    rcases hD k hk with e | ⟨e, e2⟩
    · rw [e]; exact kle_trans (good_zero hC hk) h1
    · exact h2 _ ((mem_said D _).2 ⟨k, hk, rfl, by omega⟩) e
  · rintro ⟨h1, h2⟩
    refine ⟨h1, fun c hc ho => ?_⟩
    obtain ⟨j, hj, rfl, hh⟩ := (mem_said D c).1 hc
    rcases hD j hj with e | ⟨e, e2⟩
    · rw [e] at hh; exact (hh rfl).elim
    · obtain rfl : j = k := e.2.symm.trans ho.2
      exact h2
theorem same_of_lub {x x' : Cl} (h : ∀ y, kle x y ↔ kle x' y) : cmpK x x' = 0 := cmp_zero ((h x').2 (kle_refl _)) ((h x).1 (kle_refl _))

/-- Nothing is stored where nothing is greater. -/
theorem heardN_zero (V : Vw) (l : List Cl) (h : ∀ c ∈ l, Of c.n.toNat c → kle c (V c.n.toNat)) : heardN V l = 0 := by
  induction l with
  | nil => rfl
  | cons c l ih =>
    have hb : heardB V c = false := by
      unfold heardB
      by_cases hm : mayK c = true
      · have := h c (by simp) ⟨hm, rfl⟩
        unfold kle at this
        simp; intro _; omega
      · simp [hm]
    have hv : hearV V c = V := by unfold hearV; rw [if_neg (by simp [hb])]
    simp only [heardN, hb, hv, Bool.toNat_false]
    rw [ih (fun d hd => h d (by simp [hd]))]
/-- Joined again nothing is stored. -/
theorem join_again {C D : Vw} (hD : Good D) (h : ∀ k, k < 8 → kle (D k) (C k)) : heardN C (saidV D) = 0 := by
  refine heardN_zero _ _ fun c hc ho => ?_
  obtain ⟨j, hj, rfl, hh⟩ := (mem_said D c).1 hc
  rcases hD j hj with e | ⟨e, e2⟩
  · rw [e] at hh; exact (hh rfl).elim
  · rw [e.2]; exact h j hj
theorem said_grows {D D' : Vw} (hD : Good D) (hD' : Good D') (h : ∀ k, k < 8 → kle (D k) (D' k)) : (saidV D).length ≤ (saidV D').length := by
  have : ∀ k, k ≤ 8 → (saidUp D k).length ≤ (saidUp D' k).length := by
    intro k
    induction k with
    | zero => intro _; simp [saidUp]
    | succ k ih =>
      intro hk
      have i := ih (by omega)
      by_cases h1 : ((D k).h != 0) = true
      · have h2 : ((D' k).h != 0) = true := by
          have hle := (kle_iff _ _).1 (h k (by omega))
          rcases hD k (by omega) with e | ⟨⟨e, _⟩, e2⟩
          · rw [e] at h1; simp [Cl.zero] at h1
          · rcases hD' k (by omega) with e' | ⟨⟨e', _⟩, e2'⟩
            · have := (mayK_iff _).1 e
              rw [e'] at hle
              simp only [Cl.zero] at hle
              omega
            · simp; omega
        rw [saidUp_hit D k h1, saidUp_hit D' k h2]
        simp; omega
      · rw [saidUp_miss D k (by simpa using h1)]
        by_cases h2 : ((D' k).h != 0) = true
        · rw [saidUp_hit D' k h2]; simp; omega
        · rw [saidUp_miss D' k (by simpa using h2)]; exact i
  exact this 8 (Nat.le_refl _)
theorem ofV_in (V : Vw) (k : Nat) (hk : k < 8) : ofV V k = ⟨k, (V k).i, (V k).h⟩ := by rw [ofV, if_pos (by omega)]; simp

/-- In whatever order, however often. -/
theorem turned_lub (l m : List Cl) (j : Nat) (hj : j ≤ l.length) (hl : l.length + m.length ≤ 80) (k : Nat) (y : Cl) :
    kle (heardL (m ++ l.drop j ++ l ++ l.take j) k) y ↔ kle (heardL (l ++ m) k) y := by
  unfold heardL
  rw [hearAll_lub, hearAll_lub]
  have e1 : (l ++ m).take 100 = l ++ m := List.take_of_length_le (by simp; omega)
  rw [e1]
  have key : ∀ c, c ∈ (m ++ l.drop j ++ l ++ l.take j).take 100 ↔ c ∈ l ++ m := by
    intro c
    have hin : ∀ d, d ∈ m ++ l.drop j ++ l ++ l.take j → d ∈ l ++ m := by
      intro d hd
      simp only [List.mem_append] at hd ⊢
      rcases hd with ((h | h) | h) | h
      · exact .inr h
      · exact .inl (List.mem_of_mem_drop h)
      · exact .inl h
      · exact .inl (List.mem_of_mem_take h)
    constructor
    · intro h; exact hin c (List.mem_of_mem_take h)
    · intro h
      have hsplit : m ++ l.drop j ++ l ++ l.take j = (m ++ l.drop j ++ l.take j) ++ (l.drop j ++ l.take j) := by
        conv => lhs; rw [show m ++ l.drop j ++ l ++ l.take j = m ++ l.drop j ++ (l.take j ++ l.drop j) ++ l.take j by rw [List.take_append_drop]]
        simp only [List.append_assoc]
      have hlen : (m ++ l.drop j ++ l.take j).length ≤ 100 := by simp; omega
      rw [hsplit, List.take_append, List.take_of_length_le hlen]
      refine List.mem_append_left _ ?_
      simp only [List.mem_append] at h ⊢
      rcases h with h | h
      · rw [← List.take_append_drop j l] at h
        rcases List.mem_append.1 h with h | h
        · exact .inr h
        · exact .inl (.inr h)
      · exact .inl (.inl h)
  simp only [key]
theorem both_lub (l m : List Cl) (hl : l.length + m.length ≤ 80) (k : Nat) (y : Cl) : kle (heardL (l ++ m) k) y ↔ kle (heardL l k) y ∧ kle (heardL m k) y := by
  unfold heardL
  rw [hearAll_lub, hearAll_lub, hearAll_lub, List.take_of_length_le (l := l ++ m) (by simp; omega), List.take_of_length_le (l := l) (by omega), List.take_of_length_le (l := m) (by omega)]
  simp only [List.mem_append]
  constructor
  · rintro ⟨h1, h2⟩; exact ⟨⟨h1, fun c hc => h2 c (.inl hc)⟩, h1, fun c hc => h2 c (.inr hc)⟩
  · rintro ⟨⟨h1, h2⟩, _, h3⟩; exact ⟨h1, fun c hc => hc.elim (h2 c) (h3 c)⟩

/-- What is believed of one node hangs on what is said of it alone. -/
theorem own_same (l : List Cl) (k : Nat) : ∀ V W : Vw, V k = W k → hearAll V l k = hearAll W (l.filter fun c => c.n == (k : Int)) k := by
  induction l with
  | nil => intro V W h; simpa [hearAll] using h
  | cons c l ih =>
    intro V W h
    by_cases hc : c.n = (k : Int)
    · rw [List.filter_cons_of_pos (by simp [hc])]
      refine ih (hearV V c) (hearV W c) ?_
      have e : c.n.toNat = k := by omega
      unfold hearV heardB
      rw [e, h]
      split
      · simp [putV, e]
      · exact h
    · rw [List.filter_cons_of_neg (by simp [hc])]
      refine ih (hearV V c) W ?_
      rw [hearV_other V c k, h]
      rintro ⟨hm, e⟩
      have := (mayK_iff c).1 hm
      omega
theorem own_others (l : List Cl) (k j : Nat) (hj : j ≠ k) (V : Vw) : hearAll V (l.filter fun c => c.n == (k : Int)) j = V j := by
  induction l generalizing V with
  | nil => rfl
  | cons c l ih =>
    by_cases hc : c.n = (k : Int)
    · rw [List.filter_cons_of_pos (by simp [hc])]
      refine (ih (hearV V c)).trans (hearV_other V c j ?_)
      rintro ⟨_, e⟩
      omega
    · rw [List.filter_cons_of_neg (by simp [hc])]
      exact ih V
theorem said_one (V : Vw) (k : Nat) (h : ∀ j, j ≠ k → V j = Cl.zero) : (saidV V).length ≤ 1 := by
  have : ∀ n, (saidUp V n).length ≤ (if k < n then 1 else 0) := by
    intro n
    induction n with
    | zero => simp [saidUp]
    | succ n ih =>
      by_cases hn : n = k
      · subst hn
        rw [if_neg (by omega)] at ih
        rw [if_pos (by omega)]
        by_cases h1 : ((V n).h != 0) = true
        · rw [saidUp_hit V n h1, List.length_append, List.length_singleton]; omega
        · rw [saidUp_miss V n (by simpa using h1)]; omega
      · have h1 : ((V n).h != 0) = false := by rw [h n hn]; rfl
        rw [saidUp_miss V n h1]
        split at ih <;> split <;> omega
  have := this 8
  split at this <;> (unfold saidV; omega)
end Go.Proofs.Ytbddjhkoikcgjaa
