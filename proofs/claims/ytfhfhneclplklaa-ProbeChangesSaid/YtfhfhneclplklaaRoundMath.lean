/- In each round each peer is asked once. -/
import Derived.Test.YtfhfhneclplklaaShufMath
namespace Go.Proofs.Ytfhfhneclplklaa
open Go Go.RowKit

theorem filter_all {P rest : List Int} (h : ∀ x ∈ rest, x ∈ P) : rest.filter (fun n => P.contains n) = rest := by
  rw [List.filter_eq_self]
  intro x hx
  rw [List.contains_eq_mem]
  simpa using h x hx
theorem peersF_nodup (f : Nat → Bool) (k : Nat) : (peersF f k).Nodup := by
  unfold peersF
  rw [List.Nodup, List.pairwise_map]
  refine List.Pairwise.sublist List.filter_sublist ?_
  exact List.Pairwise.imp (fun {a b} h => by omega) List.nodup_range
theorem peersOf_nodup (l : List Int) (self : Int) : (peersOf l self).Nodup := peersF_nodup _ _
theorem peersOf_mem {l : List Int} {self x : Int} : x ∈ peersOf l self ↔ (0 ≤ x ∧ x < 8) ∧ x ∈ l ∧ x ≠ self := by
  unfold peersOf peersF isPeer
  simp only [List.mem_map, List.mem_filter, List.mem_range, Bool.and_eq_true, List.contains_eq_mem, decide_eq_true_eq, Bool.not_eq_true', beq_eq_false_iff_ne, ne_eq]
  constructor
  · rintro ⟨j, ⟨hj, h1, h2⟩, rfl⟩
    exact ⟨⟨by omega, by omega⟩, h1, h2⟩
  · rintro ⟨⟨h0, h8⟩, h1, h2⟩
    exact ⟨x.toNat, ⟨by omega, by rw [show ((x.toNat : Nat) : Int) = x from by omega]; exact h1, by rw [show ((x.toNat : Nat) : Int) = x from by omega]; exact h2⟩, by omega⟩

/-- Behind t questions (t at least 1): who is left; how often each was asked. -/
structure RoundInv (P : List Int) (t : Nat) (rest : List Int) (asked : Nat → Int) : Prop where
  sub : ∀ x ∈ rest, x ∈ P
  nodup : rest.Nodup
  len : rest.length = P.length - 1 - (t - 1) % P.length
  count : ∀ j : Nat, (j : Int) ∈ P → asked j = ((t - 1) / P.length : Nat) + (if (j : Int) ∈ rest then 0 else 1)
  none : ∀ j : Nat, (j : Int) ∉ P → asked j = 0

theorem round_head {P rest : List Int} {draw : Int} (hP : P ≠ []) : ∃ x r, leftNow rest P draw = x :: r := by
  cases h : leftNow rest P draw with
  | nil => exact absurd h (leftNow_ne hP)
  | cons x r => exact ⟨x, r, rfl⟩
theorem shuf_mem {P : List Int} (h8 : P.length ≤ 64) (draw : Int) : (shuf P draw).Perm P := by
  have := shuf_perm P draw
  rwa [List.take_of_length_le h8] at this

/-- The first question. -/
theorem RoundInv.first {P : List Int} {draw : Int} {x : Int} {r : List Int} (h8 : P.length ≤ 64) (hn : P.Nodup) (hx : leftNow [] P draw = x :: r) :
    x ∈ P ∧ RoundInv P 1 r (fun j => if (j : Int) = x then 1 else 0) := by
  have hx' : shuf P draw = x :: r := by
    unfold leftNow at hx
    exact hx
  have hp := shuf_mem h8 draw
  rw [hx'] at hp
  have hnd : (x :: r).Nodup := hp.symm.nodup hn
  rw [List.nodup_cons] at hnd
  refine ⟨hp.subset (by simp), fun y hy => hp.subset (by simp [hy]), hnd.2, ?_, fun j hj => ?_, fun j hj => ?_⟩
  · have := hp.length_eq
    rw [List.length_cons] at this
    rw [Nat.sub_self, Nat.zero_mod]
    omega
  · rw [Nat.sub_self, Nat.zero_div]
    by_cases e : (j : Int) = x
    · rw [if_pos e, if_neg (by rw [e]; exact hnd.1)]; rfl
    · rw [if_neg e]
      have : (j : Int) ∈ r := by
        rcases List.mem_cons.1 (hp.symm.subset hj) with h | h
        · exact absurd h e
        · exact h
      rw [if_pos this]; rfl
  · rw [if_neg]
    rintro rfl
    exact hj (hp.subset (by simp))
/-- A further question. -/
theorem RoundInv.next {P rest : List Int} {t : Nat} {asked : Nat → Int} {draw x : Int} {r : List Int} (h : RoundInv P t rest asked) (ht : 1 ≤ t) (hP : P ≠ []) (h8 : P.length ≤ 64) (hn : P.Nodup) (hx : leftNow rest P draw = x :: r) :
    x ∈ P ∧ RoundInv P (t + 1) r (fun j => if (j : Int) = x then asked j + 1 else asked j) := by
  have hl : 0 < P.length := List.length_pos_iff.2 hP
  have hmod := Nat.mod_lt (t - 1) hl
  have hdm := Nat.div_add_mod (t - 1) P.length
  unfold leftNow at hx
  rw [filter_all h.sub] at hx
  cases hr : rest with
  | nil =>
    rw [hr] at hx
    have hx' : shuf P draw = x :: r := hx
    have hp := shuf_mem h8 draw
    rw [hx'] at hp
    have hnd : (x :: r).Nodup := hp.symm.nodup hn
    rw [List.nodup_cons] at hnd
    have hlen := h.len
    rw [hr, List.length_nil] at hlen
    have h1 : (t - 1) % P.length = P.length - 1 := by omega
    have hmul : P.length * ((t - 1) / P.length) + P.length = t := by omega
    have ht0 : t % P.length = 0 := by
      rw [← hmul, Nat.add_mod_right, Nat.mul_mod_right]
    have ht1 : t / P.length = (t - 1) / P.length + 1 := by
      have : t = P.length * ((t - 1) / P.length + 1) := by rw [Nat.mul_add, Nat.mul_one]; exact hmul.symm
      rw [this, Nat.mul_div_cancel_left _ hl]
      rw [← this]
    refine ⟨hp.subset (by simp), fun y hy => hp.subset (by simp [hy]), hnd.2, ?_, fun j hj => ?_, fun j hj => ?_⟩
    · have := hp.length_eq
      rw [List.length_cons] at this
      rw [Nat.add_sub_cancel, ht0]
      omega
    · have hc := h.count j hj
      rw [hr, if_neg (by simp)] at hc
      rw [Nat.add_sub_cancel, ht1]
      by_cases e : (j : Int) = x
      · rw [if_pos e, if_neg (by rw [e]; exact hnd.1), hc]
        omega
      · rw [if_neg e]
        have : (j : Int) ∈ r := by
          rcases List.mem_cons.1 (hp.symm.subset hj) with h | h
          · exact absurd h e
          · exact h
        rw [if_pos this, hc]
        omega
    · rw [if_neg]
      · exact h.none j hj
      · rintro rfl
        exact hj (hp.subset (by simp))
  | cons y s =>
    rw [hr] at hx
    obtain ⟨rfl, rfl⟩ : y = x ∧ s = r := by simpa using hx
    have hnd := h.nodup
    have hsub := h.sub
    have hlen := h.len
    rw [hr] at hnd hsub hlen
    rw [List.nodup_cons] at hnd
    rw [List.length_cons] at hlen
    have h1 : (t - 1) % P.length + 1 < P.length := by omega
    have hmul : P.length * ((t - 1) / P.length) + ((t - 1) % P.length + 1) = t := by omega
    have ht0 : t % P.length = (t - 1) % P.length + 1 := by
      conv => lhs; rw [← hmul]
      rw [Nat.mul_add_mod, Nat.mod_eq_of_lt h1]
    have ht1 : t / P.length = (t - 1) / P.length := by
      conv => lhs; rw [← hmul]
      rw [Nat.mul_add_div hl, Nat.div_eq_of_lt h1, Nat.add_zero]
    refine ⟨hsub y (by simp), fun z hz => hsub z (by simp [hz]), hnd.2, ?_, fun j hj => ?_, fun j hj => ?_⟩
    · rw [Nat.add_sub_cancel, ht0]
      omega
    · have hc := h.count j hj
      rw [hr] at hc
      rw [Nat.add_sub_cancel, ht1]
      by_cases e : (j : Int) = y
      · rw [if_pos e, if_neg (by rw [e]; exact hnd.1), hc, if_pos (by rw [e]; simp)]
        omega
      · rw [if_neg e, hc]
        simp [e]
    · rw [if_neg]
      · exact h.none j hj
      · rintro rfl
        exact hj (hsub _ (by simp))
end Go.Proofs.Ytfhfhneclplklaa
