/- ClmO: ClmL1, ClmO. -/
import Derived.Test.YtdfmfcbeebfdhaaClmH
import Derived.Test.YtdfmfcbeebfdhaaClmMath
namespace Go.Proofs.Ytdfmfcbeebfdhaa
section
open Go Go.RowKit Go.BigFrame
theorem src_cap {W : World} {p : Option Addr} {n c : Nat} {l : List Int} (h : SrcE elemI W (.slice p n c) l) : n ≤ c ∧ l.length = n := by
  obtain ⟨_, p2, c2, he, hl, _⟩ := h
  simp only [Value.slice.injEq] at he
  obtain ⟨_, rfl, rfl⟩ := he
  exact ⟨hl, rfl⟩
def kptK (now O : List Int) (m : Int) (p : Nat) : Nat := (List.range p).countP fun p => atL now p == m && atL O p == m
theorem kptK_succ (now O : List Int) (m : Int) (p : Nat) : kptK now O m (p + 1) = kptK now O m p + (if atL now p = m ∧ atL O p = m then 1 else 0) := by
  unfold kptK
  rw [List.range_succ, List.countP_append]
  by_cases h1 : atL now p = m <;> by_cases h2 : atL O p = m <;> simp [h1, h2]
theorem kptK_le (now O : List Int) (m : Int) (p : Nat) : kptK now O m p ≤ p := by
  unfold kptK
  have := List.countP_le_length (p := fun p => atL now p == m && atL O p == m) (l := List.range p)
  rwa [List.length_range] at this
theorem kptK_end (now O : List Int) (m : Int) : kptK now O m 16 = keptC now O m := rfl
def stK (now O M : List Int) (k : Nat) : Nat := ((M.take k).map (keptC now O)).sum
theorem stK_succ {now O M : List Int} {k : Nat} {m : Int} (h : M[k]? = some m) : stK now O M (k + 1) = stK now O M k + keptC now O m := by
  unfold stK
  rw [List.take_add_one, h, Option.toList_some, List.map_append, List.sum_append]
  simp
theorem stK_le (now O M : List Int) : ∀ k, k ≤ M.length → stK now O M k ≤ 16 * k
  | 0, _ => by simp [stK]
  | k + 1, hk => by
    have h1 := stK_le now O M k (by omega)
    have h2 := kptK_le now O (M[k]'(by omega)) 16
    rw [kptK_end] at h2
    rw [stK_succ (List.getElem?_eq_getElem (by omega))]
    omega
theorem stK_end (now O M : List Int) : stK now O M M.length = (M.map (keptC now O)).sum := by
  unfold stK
  rw [List.take_length]
theorem atL_take {now : List Int} {n p : Nat} (h : p < n) : atL (now.take n) p = atL now p := by
  unfold atL
  rw [List.getD_eq_getElem?_getD, List.getD_eq_getElem?_getD, List.getElem?_take_of_lt h]
theorem moves_take (O now : List Int) (n : Nat) (h : 16 ≤ n ∨ now.length ≤ n) : movesOf O (now.take n) = movesOf O now := by
  rcases h with h | h
  · unfold movesOf
    refine List.countP_congr fun p hp => ?_
    rw [atL_take (by have := List.mem_range.1 hp; omega)]
  · rw [List.take_of_length_le h]
end
section
open Go Go.RowKit Go.BigFrame
theorem src_drop {W : World} {p : Option Addr} {n cap m : Nat} {l : List Int} (h : SrcE elemI W (.slice p n cap) l) (hm : m ≤ l.length) : SrcE elemI W (.slice (if cap = m then p else p.map fun x => x.add m) (n - m) (cap - m)) (l.drop m) := by
  have h1 := h.drop hm
  rwa [show m * elemI.k = m from Nat.mul_one m] at h1
theorem asc_ext {A B : List Int} (hA : Asc A) (hB : Asc B) (h : ∀ x, x ∈ A ↔ x ∈ B) : A = B := by
  rw [hA, hB]
  refine List.filter_congr fun x _ => ?_
  rw [Bool.eq_iff_iff, List.contains_iff_mem, List.contains_iff_mem]
  exact h x
theorem peers_turn (ms : List Int) (k : Nat) : peersOf ([-1, 8, 99] ++ ms.drop k ++ ms ++ ms.take k) (-1) = peersOf ms (-1) := by
  refine asc_ext (peersOf_asc _) (peersOf_asc _) fun x => ?_
  rw [peersOf_mem, peersOf_mem]
  simp only [List.mem_append, List.mem_cons, List.not_mem_nil, or_false]
  constructor
  · rintro ⟨h1, h2, h3⟩
    refine ⟨h1, ?_, h3⟩
    rcases h2 with ((h | h) | h) | h
    · omega
    · exact List.mem_of_mem_drop h
    · exact h
    · exact List.mem_of_mem_take h
  · rintro ⟨h1, h2, h3⟩
    exact ⟨h1, .inl (.inr h2), h3⟩
theorem peers_of_asc {M : List Int} (h : Asc M) : peersOf M (-1) = M := by
  refine asc_ext (peersOf_asc _) h fun x => ?_
  rw [peersOf_mem]
  constructor
  · exact fun h => h.2.1
  · intro hx
    have h1 : x ∈ (nodesK 8).filter fun n => M.contains n := h ▸ hx
    obtain ⟨j, hj, rfl⟩ := List.mem_map.1 (List.mem_filter.1 h1).1
    have := List.mem_range.1 hj
    exact ⟨⟨by omega, by omega⟩, hx, by omega⟩
theorem asc_filter {M : List Int} (h : Asc M) (g : Int → Bool) : Asc (M.filter g) := by
  unfold Asc
  conv => lhs; rw [h]
  rw [List.filter_filter]
  refine List.filter_congr fun x _ => ?_
  rw [Bool.eq_iff_iff, Bool.and_eq_true, List.contains_iff_mem, List.contains_iff_mem, List.mem_filter]
  exact And.comm
theorem asc_ok {M : List Int} (h : Asc M) : MemOk M := by
  have := peersOf_ok M (-1)
  rwa [peers_of_asc h] at this
theorem asc_set {M : List Int} (h : Asc M) : ∃ b0 b1 b2 b3 b4 b5 b6 b7 : Bool, M = setB b0 b1 b2 b3 b4 b5 b6 b7 := by
  refine ⟨M.contains 0, M.contains 1, M.contains 2, M.contains 3, M.contains 4, M.contains 5, M.contains 6, M.contains 7, ?_⟩
  conv => lhs; rw [h, show nodesK 8 = [0, 1, 2, 3, 4, 5, 6, 7] from rfl]
  simp only [List.filter_cons, List.filter_nil]
  unfold setB
  cases M.contains 0 <;> cases M.contains 1 <;> cases M.contains 2 <;> cases M.contains 3 <;> cases M.contains 4 <;> cases M.contains 5 <;> cases M.contains 6 <;> cases M.contains 7 <;> rfl
theorem new_ok {M : List Int} (h : Asc M) : newOk M = true := by
  obtain ⟨b0, b1, b2, b3, b4, b5, b6, b7, rfl⟩ := asc_set h
  exact new_all b0 b1 b2 b3 b4 b5 b6 b7
theorem new_first {M O : List Int} (h : Asc M) (hO : assignOf [] M = O) (hl : O.length = 16) (hM : M ≠ []) : ∃ z, O[0]? = some z ∧ M[0]? = some z := by
  have h1 := new_ok h
  unfold newOk at h1
  rw [hO] at h1
  cases M with
  | nil => exact absurd rfl hM
  | cons m M =>
    simp only [List.isEmpty_cons, Bool.false_or, Bool.and_eq_true, beq_iff_eq, List.headD_cons] at h1
    exact ⟨m, by rw [← h1.1]; exact atL_some (by omega), rfl⟩
theorem new_unlike {M O : List Int} (h : Asc M) (hO : assignOf [] M = O) (_hl : O.length = 16) (hM : M ≠ []) (h3 : 3 ≤ M.length) {p : Nat} (hp : p + 1 + M.length < 16) {x y : Int} (hx : O[p + 1]? = some x) (hy : O[p]? = some y) : x ≠ y := by
  have h1 := new_ok h
  unfold newOk at h1
  rw [hO, Bool.or_eq_true, Bool.and_eq_true, Bool.or_eq_true] at h1
  rcases h1 with h1 | ⟨_, h1 | h1⟩
  · exact absurd (List.isEmpty_iff.1 h1) hM
  · exact absurd (of_decide_eq_true h1) (by omega)
  · have h2 := List.all_eq_true.1 h1 (p + 1) (List.mem_range.2 (by omega))
    rw [Bool.or_eq_true, Bool.or_eq_true] at h2
    rcases h2 with (h2 | h2) | h2
    · exact absurd (beq_iff_eq.1 h2) (by omega)
    · exact absurd (of_decide_eq_true h2) (by omega)
    · rw [Nat.add_sub_cancel, atL_of hx, atL_of hy] at h2
      simpa using h2
theorem moves_all {a b : List Int} (h : ∀ p, p < 16 → atL a p ≠ atL b p) : movesOf a b = 16 := by
  unfold movesOf
  rw [List.countP_eq_length.2 (fun p hp => by simpa using h p (List.mem_range.1 hp)), List.length_range]
theorem moves_nil {O : List Int} {now M : List Int} (hok : MemOk M) (hA : Assigned now M O) : movesOf [] O = 16 := moves_all fun p hp e => by
  have h1 := hok.ne _ (hA.each p _ (atL_some (by rw [hA.len]; exact hp)))
  exact h1 (e.symm.trans (atL_nil p))
end
end Go.Proofs.Ytdfmfcbeebfdhaa
