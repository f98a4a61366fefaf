/- Quotas, as the loops make them. -/
import Derived.Test.YtagpbmgeikjnjaaClmMath
namespace Go.Proofs.Ytagpbmgeikjnjaa
def bigsK (now M : List Int) (k : Nat) : Nat := (M.take k).countP (bigB now (16 / M.length))
def smallsK (now M : List Int) (k : Nat) : Nat := (M.take k).countP fun n => !bigB now (16 / M.length) n
def q0L (now M : List Int) (k : Nat) : List Int := (List.range k).map fun i => ((16 / M.length : Nat) : Int) + (if bigB now (16 / M.length) (M.getD i 0) = true ∧ bigsK now M i < 16 % M.length then 1 else 0)
theorem countP_take {f : Int → Bool} {M : List Int} {k : Nat} {m : Int} (h : M[k]? = some m) : (M.take (k + 1)).countP f = (M.take k).countP f + (if f m = true then 1 else 0) := by
  rw [List.take_add_one, h, Option.toList_some, List.countP_append]
  simp [List.countP_cons]
theorem filter_at {f : Int → Bool} : ∀ {M : List Int} {k : Nat} {m : Int}, M[k]? = some m → f m = true → (M.filter f)[(M.take k).countP f]? = some m
  | [], k, m, h, _ => by simp at h
  | a :: M, 0, m, h, hf => by
    simp only [List.getElem?_cons_zero, Option.some.injEq] at h
    subst h
    simp [hf]
  | a :: M, k + 1, m, h, hf => by
    have ih := filter_at (f := f) (M := M) (k := k) (by simpa using h) hf
    rw [List.take_succ_cons, List.countP_cons, List.filter_cons]
    by_cases ha : f a = true
    · rw [if_pos ha, if_pos ha, List.getElem?_cons_succ]; exact ih
    · rw [if_neg ha, if_neg ha, Nat.add_zero]; exact ih
theorem mem_take {l : List Int} (hn : l.Nodup) {j e : Nat} {x : Int} (h : l[j]? = some x) : x ∈ l.take e ↔ j < e := by
  constructor
  · intro hx
    obtain ⟨i, hi⟩ := List.getElem?_of_mem hx
    have hie : i < e := by
      have := (List.getElem?_eq_some_iff.1 hi).1
      rw [List.length_take] at this
      omega
    rw [List.getElem?_take, if_pos hie] at hi
    have h1 := List.getElem?_eq_some_iff.1 hi
    have h2 := List.getElem?_eq_some_iff.1 h
    have : i = j := (List.getElem_inj hn).1 (h1.2.trans h2.2.symm)
    omega
  · intro hj
    exact List.mem_of_getElem? (i := j) (by rw [List.getElem?_take, if_pos hj]; exact h)
theorem bigs_small (now M : List Int) : bigsK now M M.length = (M.filter (bigB now (16 / M.length))).length := by
  unfold bigsK
  rw [List.take_length, List.countP_eq_length_filter]
theorem quota_at {now M : List Int} (hn : M.Nodup) {k : Nat} {m : Int} (h : M[k]? = some m) : quotaOf now M m = ((16 / M.length : Nat) : Int) + (if (if bigB now (16 / M.length) m = true then bigsK now M k < 16 % M.length else bigsK now M M.length + smallsK now M k < 16 % M.length) then 1 else 0) := by
  have hl : m ∈ luckyOf now M ↔ (if bigB now (16 / M.length) m = true then bigsK now M k < 16 % M.length else bigsK now M M.length + smallsK now M k < 16 % M.length) := by
    unfold luckyOf
    have hnd : (M.filter (bigB now (16 / M.length)) ++ M.filter fun n => !bigB now (16 / M.length) n).Nodup := (lucky_perm M (bigB now (16 / M.length))).nodup_iff.2 hn
    by_cases hb : bigB now (16 / M.length) m = true
    · rw [if_pos hb]
      refine mem_take hnd ?_
      have h1 := filter_at h hb
      have h2 := (List.getElem?_eq_some_iff.1 h1).1
      exact (List.getElem?_append_left h2).trans h1
    · rw [if_neg hb]
      have hb' : (fun n => !bigB now (16 / M.length) n) m = true := by simpa using hb
      refine mem_take hnd ?_
      have h1 := filter_at (f := fun n => !bigB now (16 / M.length) n) h hb'
      rw [bigs_small, List.getElem?_append_right (by omega), Nat.add_sub_cancel_left]
      exact h1
  unfold quotaOf
  congr 1
  by_cases hc : m ∈ luckyOf now M
  · rw [if_pos (by simpa using hc), if_pos (hl.1 hc)]
  · rw [if_neg (by simpa using hc), if_neg (fun h => hc (hl.2 h))]
theorem q0L_len (now M : List Int) (k : Nat) : (q0L now M k).length = k := by simp [q0L]
theorem q0L_succ {now M : List Int} {k : Nat} {m : Int} (h : M[k]? = some m) : q0L now M (k + 1) = q0L now M k ++ [((16 / M.length : Nat) : Int) + (if bigB now (16 / M.length) m = true ∧ bigsK now M k < 16 % M.length then 1 else 0)] := by
  unfold q0L
  have e : M.getD k 0 = m := by rw [List.getD_eq_getElem?_getD, h]; rfl
  rw [List.range_succ, List.map_append, List.map_cons, List.map_nil, e]
theorem set_mid (A : List Int) (x y : Int) (B : List Int) : (A ++ x :: B).set A.length y = A ++ y :: B := by
  rw [List.set_append_right _ _ (Nat.le_refl _), Nat.sub_self]
  rfl
/-- Round 0, and round 1, so far. -/
def rnd0 (now M : List Int) (k : Nat) : List Int := q0L now M k ++ List.replicate (M.length - k) 0
def rnd1 (now M : List Int) (k : Nat) : List Int := (M.take k).map (quotaOf now M) ++ (q0L now M M.length).drop k
theorem rnd0_len (now M : List Int) {k : Nat} (h : k ≤ M.length) : (rnd0 now M k).length = M.length := by simp [rnd0, q0L_len]; omega
theorem rnd1_len (now M : List Int) {k : Nat} (h : k ≤ M.length) : (rnd1 now M k).length = M.length := by simp [rnd1, q0L_len]; omega
theorem rnd0_end (now M : List Int) : rnd0 now M M.length = rnd1 now M 0 := by simp [rnd0, rnd1]
theorem rnd1_end (now M : List Int) : rnd1 now M M.length = quotasOf now M := by
  unfold rnd1 quotasOf
  rw [List.take_length, List.drop_eq_nil_of_le (by rw [q0L_len]; exact Nat.le_refl _), List.append_nil]
theorem rnd0_step {now M : List Int} {k : Nat} {m : Int} (h : M[k]? = some m) : rnd0 now M (k + 1) = (rnd0 now M k).set k (((16 / M.length : Nat) : Int) + (if bigB now (16 / M.length) m = true ∧ bigsK now M k < 16 % M.length then 1 else 0)) := by
  have hk := (List.getElem?_eq_some_iff.1 h).1
  unfold rnd0
  obtain ⟨r, hr⟩ : ∃ r, M.length - k = r + 1 := ⟨M.length - k - 1, by omega⟩
  have hr2 : M.length - (k + 1) = r := by omega
  rw [hr, hr2, List.replicate_succ, q0L_succ h, List.append_assoc]
  have := set_mid (q0L now M k) 0 (((16 / M.length : Nat) : Int) + (if bigB now (16 / M.length) m = true ∧ bigsK now M k < 16 % M.length then 1 else 0)) (List.replicate r 0)
  rw [q0L_len] at this
  rw [this]
  rfl
theorem q0L_at {now M : List Int} {k : Nat} {m : Int} (h : M[k]? = some m) : (q0L now M M.length)[k]? = some (((16 / M.length : Nat) : Int) + (if bigB now (16 / M.length) m = true ∧ bigsK now M k < 16 % M.length then 1 else 0)) := by
  have hk := (List.getElem?_eq_some_iff.1 h).1
  have e : M.getD k 0 = m := by rw [List.getD_eq_getElem?_getD, h]; rfl
  unfold q0L
  rw [List.getElem?_map, List.getElem?_range hk, Option.map_some, e]
theorem rnd1_at {now M : List Int} {k : Nat} {m : Int} (h : M[k]? = some m) : (rnd1 now M k)[k]? = some (((16 / M.length : Nat) : Int) + (if bigB now (16 / M.length) m = true ∧ bigsK now M k < 16 % M.length then 1 else 0)) := by
  have hk := (List.getElem?_eq_some_iff.1 h).1
  unfold rnd1
  have hl : ((M.take k).map (quotaOf now M)).length = k := by simp; omega
  rw [List.getElem?_append_right (by omega), hl, Nat.sub_self, List.getElem?_drop, Nat.add_zero]
  exact q0L_at h
theorem rnd1_step {now M : List Int} {k : Nat} {m : Int} (h : M[k]? = some m) : rnd1 now M (k + 1) = (rnd1 now M k).set k (quotaOf now M m) := by
  have hk := (List.getElem?_eq_some_iff.1 h).1
  have hl : ((M.take k).map (quotaOf now M)).length = k := by simp; omega
  have hd : (q0L now M M.length).drop k = (((16 / M.length : Nat) : Int) + (if bigB now (16 / M.length) m = true ∧ bigsK now M k < 16 % M.length then 1 else 0)) :: (q0L now M M.length).drop (k + 1) := by
    rw [List.drop_eq_getElem_cons (by rw [q0L_len]; exact hk)]
    congr 1
    have := q0L_at (now := now) h
    rw [List.getElem?_eq_getElem (by rw [q0L_len]; exact hk)] at this
    exact Option.some.inj this
  unfold rnd1
  rw [hd]
  have := set_mid ((M.take k).map (quotaOf now M)) (((16 / M.length : Nat) : Int) + (if bigB now (16 / M.length) m = true ∧ bigsK now M k < 16 % M.length then 1 else 0)) (quotaOf now M m) ((q0L now M M.length).drop (k + 1))
  rw [hl] at this
  rw [this, List.take_add_one, h, Option.toList_some, List.map_append, List.append_assoc]
  rfl
end Go.Proofs.Ytagpbmgeikjnjaa
