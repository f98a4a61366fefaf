/- Assign, as the loops make it. -/
import Derived.Test.YtagpbmgeikjnjaaClmQ
namespace Go.Proofs.Ytagpbmgeikjnjaa
/-- Of the first i members one is a and lacks some. -/
def hitB (M : List Int) (L : Int → Int) (a : Int) (i : Nat) : Bool := (M.take i).contains a && decide (0 < L a)
def keepV (M : List Int) (L : Int → Int) (a : Int) (i : Nat) : Int := if hitB M L a i = true then a else -1
def keepL (M : List Int) (L : Int → Int) (a : Int) (i : Nat) : Int → Int := if hitB M L a i = true then updI L a (L a - 1) else L
theorem hit_zero (M : List Int) (L : Int → Int) (a : Int) : hitB M L a 0 = false := by simp [hitB]
theorem hit_succ {M : List Int} {L : Int → Int} {a m : Int} {i : Nat} (h : M[i]? = some m) : hitB M L a (i + 1) = (hitB M L a i || (decide (a = m) && decide (0 < L a))) := by
  unfold hitB
  rw [List.take_add_one, h, Option.toList_some]
  simp only [List.contains_eq_mem, List.mem_append, List.mem_singleton]
  by_cases h1 : a ∈ M.take i <;> by_cases h2 : a = m <;> simp [h1, h2]
theorem hit_not {M : List Int} (hn : M.Nodup) (L : Int → Int) {m : Int} {i : Nat} (h : M[i]? = some m) : hitB M L m i = false := by
  unfold hitB
  have : ¬ m ∈ M.take i := fun hx => by have := (mem_take hn h).1 hx; omega
  simp [this]
theorem keepV_zero (M : List Int) (L : Int → Int) (a : Int) : keepV M L a 0 = -1 := by simp [keepV, hit_zero]
theorem keepL_zero (M : List Int) (L : Int → Int) (a : Int) : keepL M L a 0 = L := by simp [keepL, hit_zero]
/-- The member that it is: it gets the part. -/
theorem keep_hit {M : List Int} (hn : M.Nodup) {L : Int → Int} {m : Int} {i : Nat} (h : M[i]? = some m) (hp : 0 < L m) : keepV M L m (i + 1) = m ∧ M.map (keepL M L m (i + 1)) = (M.map (keepL M L m i)).set i (L m - 1) := by
  have h1 := hit_succ (L := L) (a := m) h
  rw [hit_not hn L h] at h1
  simp only [hp, decide_true, Bool.and_self, Bool.or_true] at h1
  refine ⟨by rw [keepV, if_pos h1], ?_⟩
  rw [keepL, if_pos h1, keepL, hit_not hn L h, if_neg (by simp)]
  exact map_upd hn L h _
theorem keepL_at {M : List Int} (hn : M.Nodup) {L : Int → Int} {m : Int} {i : Nat} (h : M[i]? = some m) : keepL M L m i = L := by
  rw [keepL, hit_not hn L h, if_neg (by simp)]
theorem keep_miss {M : List Int} {L : Int → Int} {a m : Int} {i : Nat} (h : M[i]? = some m) (hp : a ≠ m ∨ ¬ 0 < L a) : keepV M L a (i + 1) = keepV M L a i ∧ keepL M L a (i + 1) = keepL M L a i := by
  have h1 := hit_succ (L := L) (a := a) h
  have h2 : (decide (a = m) && decide (0 < L a)) = false := by
    rcases hp with h | h <;> simp [h]
  rw [h2, Bool.or_false] at h1
  unfold keepV keepL
  rw [h1]
  exact ⟨rfl, rfl⟩
def oA (now M : List Int) (Q : Int → Int) (k : Nat) : List Int := (keepK now M Q k).1 ++ List.replicate (16 - k) 0
theorem keepK_len (now M : List Int) (Q : Int → Int) : ∀ k, (keepK now M Q k).1.length = k
  | 0 => rfl
  | k + 1 => by
    have := keepK_len now M Q k
    unfold keepK
    split <;> simp [this]
theorem oA_len (now M : List Int) (Q : Int → Int) {k : Nat} (h : k ≤ 16) : (oA now M Q k).length = 16 := by simp [oA, keepK_len]; omega
theorem oA_end (now M : List Int) (Q : Int → Int) : oA now M Q 16 = (keepK now M Q 16).1 := by simp [oA]
theorem oA_step (now M : List Int) (Q : Int → Int) {k : Nat} (hk : k < 16) : oA now M Q (k + 1) = (oA now M Q k).set k (keepV M (keepK now M Q k).2 (atL now k) M.length) ∧ (keepK now M Q (k + 1)).2 = keepL M (keepK now M Q k).2 (atL now k) M.length := by
  have hh : hitB M (keepK now M Q k).2 (atL now k) M.length = true ↔ (M.contains (atL now k) = true ∧ 0 < (keepK now M Q k).2 (atL now k)) := by
    unfold hitB
    rw [List.take_length]
    simp
  have hr : List.replicate (16 - k) (0 : Int) = 0 :: List.replicate (16 - (k + 1)) 0 := by
    rw [← List.replicate_succ]
    congr 1
    omega
  have hl := keepK_len now M Q k
  unfold oA
  rw [hr]
  have hs := fun y => set_mid (keepK now M Q k).1 0 y (List.replicate (16 - (k + 1)) 0)
  rw [hl] at hs
  rw [hs]
  unfold keepV keepL
  by_cases hc : M.contains (atL now k) = true ∧ 0 < (keepK now M Q k).2 (atL now k)
  · rw [if_pos (hh.2 hc), if_pos (hh.2 hc), keepK, if_pos hc]
    simp
  · rw [if_neg (fun h => hc (hh.1 h)), if_neg (fun h => hc (hh.1 h)), keepK, if_neg hc]
    simp
theorem keep_bound {now M : List Int} (h : MemOk M) {k : Nat} {m : Int} (hm : m ∈ M) : (keepK now M (quotaOf now M) k).2 m ≤ 17 := by
  have c := ((keeps (now := now) (Q := quotaOf now M) h.nodup h.ne (fun n _ => quota_pos now M n) k).cnt m hm).2
  have q := (quota_range now M m).2
  have d : (16 / M.length : Nat) ≤ 16 := Nat.div_le_self _ _
  omega
/-- Where the one that lacks most stands. -/
def bJ (M : List Int) (L : Int → Int) (f : Int → Bool) : Nat → Int
  | 0 => -1
  | i + 1 => if 0 < L (M.getD i 0) ∧ f (M.getD i 0) = true ∧ (bJ M L f i < 0 ∨ L (M.getD (bJ M L f i).toNat 0) < L (M.getD i 0)) then (i : Int) else bJ M L f i
theorem bJ_range (M : List Int) (L : Int → Int) (f : Int → Bool) : ∀ i, -1 ≤ bJ M L f i ∧ bJ M L f i < i
  | 0 => by simp [bJ]
  | i + 1 => by
    have := bJ_range M L f i
    unfold bJ
    split <;> omega
theorem bestI_snoc {L : Int → Int} {f : Int → Bool} {n : Int} : ∀ {M : List Int} {b : Option Int}, bestI L f b (M ++ [n]) = if 0 < L n ∧ f n = true ∧ (∀ x, bestI L f b M = some x → L x < L n) then some n else bestI L f b M
  | [], b => rfl
  | a :: M, b => by
    show bestI L f _ (M ++ [n]) = _
    rw [bestI_snoc]
    rfl
theorem bJ_best (M : List Int) (L : Int → Int) (f : Int → Bool) : ∀ i, i ≤ M.length → bestI L f none (M.take i) = if bJ M L f i < 0 then none else M[(bJ M L f i).toNat]?
  | 0, _ => by simp [bJ, bestI]
  | i + 1, hi => by
    have ih := bJ_best M L f i (by omega)
    have hr := bJ_range M L f i
    have hm : M[i]? = some (M.getD i 0) := by rw [List.getD_eq_getElem?_getD, List.getElem?_eq_getElem (by omega)]; rfl
    rw [List.take_add_one, hm, Option.toList_some, bestI_snoc, ih]
    have hcond : (0 < L (M.getD i 0) ∧ f (M.getD i 0) = true ∧ (∀ x, (if bJ M L f i < 0 then none else M[(bJ M L f i).toNat]?) = some x → L x < L (M.getD i 0))) ↔ (0 < L (M.getD i 0) ∧ f (M.getD i 0) = true ∧ (bJ M L f i < 0 ∨ L (M.getD (bJ M L f i).toNat 0) < L (M.getD i 0))) := by
      by_cases hb : bJ M L f i < 0
      · simp [hb]
      · have hx : M[(bJ M L f i).toNat]? = some (M.getD (bJ M L f i).toNat 0) := by rw [List.getD_eq_getElem?_getD, List.getElem?_eq_getElem (by omega)]; rfl
        rw [if_neg hb, hx]
        simp [hb]
    rw [show bJ M L f (i + 1) = if 0 < L (M.getD i 0) ∧ f (M.getD i 0) = true ∧ (bJ M L f i < 0 ∨ L (M.getD (bJ M L f i).toNat 0) < L (M.getD i 0)) then (i : Int) else bJ M L f i from rfl]
    by_cases hc : 0 < L (M.getD i 0) ∧ f (M.getD i 0) = true ∧ (bJ M L f i < 0 ∨ L (M.getD (bJ M L f i).toNat 0) < L (M.getD i 0))
    · rw [if_pos (hcond.2 hc), if_pos hc, if_neg (by omega), Int.toNat_natCast, hm]
    · rw [if_neg (fun h => hc (hcond.1 h)), if_neg hc]
theorem bJ_hit {M : List Int} {L : Int → Int} {f : Int → Bool} {i : Nat} {m : Int} (h : M[i]? = some m) (h1 : 0 < L m) (h2 : f m = true) (h3 : bJ M L f i < 0 ∨ ∃ j x, bJ M L f i = ((j : Nat) : Int) ∧ M[j]? = some x ∧ L x < L m) : bJ M L f (i + 1) = i := by
  have e : M.getD i 0 = m := by rw [List.getD_eq_getElem?_getD, h]; rfl
  rw [bJ, e, if_pos]
  refine ⟨h1, h2, ?_⟩
  rcases h3 with h3 | ⟨j, x, hj, hx, hl⟩
  · exact .inl h3
  · right
    rw [hj, Int.toNat_natCast, List.getD_eq_getElem?_getD, hx]
    exact hl
theorem bJ_miss {M : List Int} {L : Int → Int} {f : Int → Bool} {i : Nat} {m : Int} (h : M[i]? = some m) (h3 : ¬ 0 < L m ∨ f m = false ∨ ∃ j x, bJ M L f i = ((j : Nat) : Int) ∧ M[j]? = some x ∧ ¬ L x < L m) : bJ M L f (i + 1) = bJ M L f i := by
  have e : M.getD i 0 = m := by rw [List.getD_eq_getElem?_getD, h]; rfl
  rw [bJ, e, if_neg]
  rintro ⟨h1, h2, h4⟩
  rcases h3 with h3 | h3 | ⟨j, x, hj, hx, hl⟩
  · exact h3 h1
  · rw [h3] at h2; simp at h2
  · rcases h4 with h4 | h4
    · omega
    · rw [hj, Int.toNat_natCast, List.getD_eq_getElem?_getD, hx] at h4
      exact hl h4
/-- What both rounds find. -/
theorem pick_one {M : List Int} {L : Int → Int} {a b : Int} {j : Nat} (h : bJ M L (fun n => n != a && n != b) M.length = (j : Int)) : ∃ n, M[j]? = some n ∧ pickI M L a b = some n := by
  have e := bJ_best M L (fun n => n != a && n != b) M.length (Nat.le_refl _)
  have hr := bJ_range M L (fun n => n != a && n != b) M.length
  rw [List.take_length, h, if_neg (by omega), Int.toNat_natCast] at e
  have hj : j < M.length := by omega
  refine ⟨M[j], List.getElem?_eq_getElem hj, ?_⟩
  unfold pickI
  rw [e, List.getElem?_eq_getElem hj]
theorem pick_two {M : List Int} {L : Int → Int} {a b : Int} (hp : ∃ n ∈ M, 0 < L n) (h0 : bJ M L (fun n => n != a && n != b) M.length < 0) : ∃ (j : Nat) (n : Int), bJ M L (fun _ => true) M.length = (j : Int) ∧ M[j]? = some n ∧ pickI M L a b = some n := by
  have e0 := bJ_best M L (fun n => n != a && n != b) M.length (Nat.le_refl _)
  rw [List.take_length, if_pos h0] at e0
  have e := bJ_best M L (fun _ => true) M.length (Nat.le_refl _)
  rw [List.take_length] at e
  have hr := bJ_range M L (fun _ => true) M.length
  obtain ⟨n, hn, hl⟩ := hp
  obtain ⟨x, hx⟩ := bestI_has (L := L) (f := fun _ => true) (M := M) (b := none) (.inr ⟨n, hn, hl, rfl⟩)
  rw [hx] at e
  by_cases hb : bJ M L (fun _ => true) M.length < 0
  · rw [if_pos hb] at e; simp at e
  · rw [if_neg hb] at e
    refine ⟨(bJ M L (fun _ => true) M.length).toNat, x, by omega, e.symm, ?_⟩
    unfold pickI
    rw [e0]
    exact hx
def gB (now M : List Int) (k : Nat) : List Int × (Int → Int) := giveK M (keepK now M (quotaOf now M) 16) k
theorem gB_kept {now M : List Int} {k : Nat} (h : atL (gB now M k).1 k ≠ -1) : gB now M (k + 1) = gB now M k := by
  unfold gB at h ⊢
  rw [giveK, if_neg h]
theorem gB_given {now M : List Int} {k : Nat} {n : Int} (h : atL (gB now M k).1 k = -1) (hp : pickI M (gB now M k).2 (atL (gB now M k).1 ((k + 15) % 16)) (atL (gB now M k).1 ((k + 1) % 16)) = some n) : gB now M (k + 1) = ((gB now M k).1.set k n, updI (gB now M k).2 n ((gB now M k).2 n - 1)) := by
  unfold gB at h hp ⊢
  rw [giveK, if_pos h, hp]
theorem gB_gives {now M : List Int} (h : MemOk M) (hM : M ≠ []) {k : Nat} (hk : k ≤ 16) : GivesL M (quotaOf now M) (keepK now M (quotaOf now M) 16).1 (keepK now M (quotaOf now M) 16).2 k (gB now M k).1 (gB now M k).2 := gives h.nodup h.ne (gives0 (now := now) h hM) k hk
theorem gB_end {now M : List Int} (hM : M ≠ []) : (gB now M 16).1 = assignOf now M := by
  unfold gB assignOf
  rw [if_neg hM]
end Go.Proofs.Ytagpbmgeikjnjaa
