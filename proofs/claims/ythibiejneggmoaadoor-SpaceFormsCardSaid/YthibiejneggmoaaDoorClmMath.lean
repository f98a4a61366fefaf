/- ClmMath: ClmMath, ClmQ, ClmS. -/
import Derived.Test.YthibiejneggmoaaDoorRows
namespace Go.Proofs.YthibiejneggmoaaDoor
section

def atL (l : List Int) (p : Nat) : Int := l.getD p (-1)
def updI (L : Int → Int) (n v : Int) : Int → Int := fun x => if x = n then v else L x
/-- How many of the first k parts are a node's. -/
def hasK (now : List Int) (n : Int) (k : Nat) : Nat := (List.range k).countP fun p => atL now p == n
def bigB (now : List Int) (b : Nat) (n : Int) : Bool := decide (b < hasK now n 16)
/-- Whose quota is one more. -/
def luckyOf (now M : List Int) : List Int := (M.filter (bigB now (16 / M.length)) ++ M.filter fun n => !bigB now (16 / M.length) n).take (16 % M.length)
def quotaOf (now M : List Int) (n : Int) : Int := (16 / M.length : Nat) + (if (luckyOf now M).contains n then 1 else 0)
def quotasOf (now M : List Int) : List Int := M.map (quotaOf now M)
theorem sum_upd {M : List Int} (hn : M.Nodup) (L : Int → Int) {n : Int} (hm : n ∈ M) (v : Int) : (M.map (updI L n v)).sum = (M.map L).sum - L n + v := by
  induction M with
  | nil => simp at hm
  | cons a M ih =>
    have hna := List.nodup_cons.1 hn
    simp only [List.map_cons, List.sum_cons]
    by_cases e : a = n
    · subst e
      have : M.map (updI L a v) = M.map L := List.map_congr_left fun x hx => by
        have : x ≠ a := fun h => hna.1 (h ▸ hx)
        simp [updI, this]
      rw [this]
      simp only [updI, if_true]
      omega
    · have h1 : n ∈ M := by
        rcases List.mem_cons.1 hm with h | h
        · exact absurd h.symm e
        · exact h
      rw [ih hna.2 h1]
      simp only [updI, if_neg e]
      omega
theorem map_upd {M : List Int} (hn : M.Nodup) (L : Int → Int) {i : Nat} {n : Int} (hi : M[i]? = some n) (v : Int) : M.map (updI L n v) = (M.map L).set i v := by
  apply List.ext_getElem?
  intro j
  rw [List.getElem?_set, List.getElem?_map, List.getElem?_map]
  by_cases e : i = j
  · subst e
    rw [hi]
    have : i < M.length := (List.getElem?_eq_some_iff.1 hi).1
    simp [updI, this]
  · rw [if_neg e]
    cases hj : M[j]? with
    | none => rfl
    | some x =>
      have hx : x ≠ n := by
        intro h
        subst h
        have h1 := (List.getElem?_eq_some_iff.1 hi)
        have h2 := (List.getElem?_eq_some_iff.1 hj)
        exact e ((List.getElem_inj hn).1 (h1.2.trans h2.2.symm))
      simp [updI, hx]
theorem sum_pos {M : List Int} {L : Int → Int} (h : 0 < (M.map L).sum) : ∃ n ∈ M, 0 < L n := by
  induction M with
  | nil => simp at h
  | cons a M ih =>
    simp only [List.map_cons, List.sum_cons] at h
    by_cases e : 0 < L a
    · exact ⟨a, List.mem_cons_self, e⟩
    · obtain ⟨n, hn, h1⟩ := ih (by omega)
      exact ⟨n, List.mem_cons_of_mem _ hn, h1⟩
theorem sum_zero {M : List Int} {L : Int → Int} (h0 : ∀ n ∈ M, 0 ≤ L n) (h : (M.map L).sum = 0) : ∀ n ∈ M, L n = 0 := by
  induction M with
  | nil => simp
  | cons a M ih =>
    simp only [List.map_cons, List.sum_cons] at h
    have hs : 0 ≤ (M.map L).sum := by
      clear ih h
      induction M with
      | nil => simp
      | cons b M ih2 =>
        simp only [List.map_cons, List.sum_cons]
        have := h0 b (by simp)
        have := ih2 fun n hn => h0 n (by
          rcases List.mem_cons.1 hn with h | h
          · exact h ▸ List.mem_cons_self
          · exact List.mem_cons_of_mem _ (List.mem_cons_of_mem _ h))
        omega
    have ha := h0 a List.mem_cons_self
    have h1 := ih (fun n hn => h0 n (List.mem_cons_of_mem _ hn)) (by omega)
    intro n hn
    rcases List.mem_cons.1 hn with rfl | hn
    · omega
    · exact h1 n hn

/- Quotas. -/
theorem lucky_perm (M : List Int) (f : Int → Bool) : (M.filter f ++ M.filter fun n => !f n).Perm M := by
  induction M with
  | nil => simp
  | cons a M ih =>
    by_cases h : f a = true
    · simp only [List.filter_cons, h, if_true, Bool.not_true, Bool.false_eq_true, if_false, List.cons_append]
      exact ih.cons a
    · have h' : f a = false := by simpa using h
      simp only [List.filter_cons, h', Bool.false_eq_true, if_false, Bool.not_false, if_true]
      exact (List.perm_middle).trans (ih.cons a)
theorem lucky_len {now M : List Int} (hM : M ≠ []) : (luckyOf now M).length = 16 % M.length := by
  unfold luckyOf
  rw [List.length_take, (lucky_perm M _).length_eq]
  have : 0 < M.length := List.length_pos_iff.2 hM
  have := Nat.mod_lt 16 this
  omega
theorem lucky_mem {now M : List Int} {n : Int} (h : n ∈ luckyOf now M) : n ∈ M := (lucky_perm M _).subset (List.mem_of_mem_take h)
theorem lucky_nodup {now M : List Int} (h : M.Nodup) : (luckyOf now M).Nodup := ((lucky_perm M (bigB now (16 / M.length))).nodup_iff.2 h).sublist (List.take_sublist _ _)
theorem sum_const (b : Int) (A : List Int) : ∀ {M : List Int}, (M.map fun n => b + (if A.contains n then 1 else 0)).sum = b * M.length + (M.filter A.contains).length
  | [] => by simp
  | a :: M => by
    simp only [List.map_cons, List.sum_cons, List.length_cons, List.filter_cons]
    rw [sum_const b A (M := M)]
    split
    · simp only [List.length_cons]; rw [Int.natCast_succ, Int.natCast_succ, Int.mul_add]; omega
    · rw [Int.natCast_succ, Int.mul_add]; omega
theorem filter_len {A : List Int} (hA : A.Nodup) : ∀ {M : List Int}, M.Nodup → (∀ x ∈ A, x ∈ M) → (M.filter A.contains).length = A.length := fun {M} hM hs => by
  have h1 : (M.filter A.contains).Perm A := (List.perm_ext_iff_of_nodup (hM.sublist List.filter_sublist) hA).2 fun x => by
    simp only [List.mem_filter, List.contains_iff_mem]
    exact ⟨fun h => h.2, fun h => ⟨hs x h, h⟩⟩
  exact h1.length_eq
theorem quota_sum {now M : List Int} (hn : M.Nodup) (hM : M ≠ []) : (M.map (quotaOf now M)).sum = 16 := by
  have h1 := sum_const ((16 / M.length : Nat) : Int) (luckyOf now M) (M := M)
  have h2 := filter_len (lucky_nodup (now := now) hn) hn fun x hx => lucky_mem hx
  rw [h2, lucky_len hM] at h1
  have e : M.map (quotaOf now M) = M.map fun n => ((16 / M.length : Nat) : Int) + (if (luckyOf now M).contains n then 1 else 0) := rfl
  rw [e, h1]
  have h3 := Nat.div_add_mod 16 M.length
  rw [Nat.mul_comm] at h3
  exact_mod_cast h3
theorem quota_range (now M : List Int) (n : Int) : ((16 / M.length : Nat) : Int) ≤ quotaOf now M n ∧ quotaOf now M n ≤ ((16 / M.length : Nat) : Int) + 1 := by
  unfold quotaOf
  split <;> omega

/- What is kept. -/
def keepK (now M : List Int) (Q : Int → Int) : Nat → List Int × (Int → Int)
  | 0 => ([], Q)
  | k + 1 => if M.contains (atL now k) = true ∧ 0 < (keepK now M Q k).2 (atL now k) then ((keepK now M Q k).1 ++ [atL now k], updI (keepK now M Q k).2 (atL now k) ((keepK now M Q k).2 (atL now k) - 1)) else ((keepK now M Q k).1 ++ [-1], (keepK now M Q k).2)
structure Keeps (now M : List Int) (Q : Int → Int) (k : Nat) (O : List Int) (L : Int → Int) : Prop where
  len : O.length = k
  cnt : ∀ n ∈ M, (O.count n : Int) = min (hasK now n k : Int) (Q n) ∧ L n = Q n - O.count n
  sum : (M.map L).sum = (M.map Q).sum - k + O.count (-1)
  each : ∀ p x, O[p]? = some x → (x = -1 ∧ (atL now p ∈ M → L (atL now p) = 0)) ∨ (x = atL now p ∧ x ∈ M)
theorem hasK_succ (now : List Int) (n : Int) (k : Nat) : hasK now n (k + 1) = hasK now n k + (if atL now k = n then 1 else 0) := by
  unfold hasK
  rw [List.range_succ, List.countP_append]
  by_cases h : atL now k = n
  · simp [h]
  · simp [h]
theorem count_snoc (O : List Int) (x n : Int) : (O ++ [x]).count n = O.count n + (if x = n then 1 else 0) := by
  rw [List.count_append]
  by_cases h : x = n
  · simp [h]
  · simp [h]
theorem keeps {now M : List Int} {Q : Int → Int} (hn : M.Nodup) (hm : ∀ n ∈ M, n ≠ -1) (hq : ∀ n ∈ M, 0 ≤ Q n) : ∀ k, Keeps now M Q k (keepK now M Q k).1 (keepK now M Q k).2
  | 0 => ⟨rfl, fun n h => by have := hq n h; simp [hasK, keepK]; omega, by simp [keepK], fun p x h => by simp [keepK] at h⟩
  | k + 1 => by
    have ih := keeps (now := now) (Q := Q) hn hm hq k
    unfold keepK
    generalize (keepK now M Q k).1 = O at *
    generalize (keepK now M Q k).2 = L at *
    by_cases hc : M.contains (atL now k) = true ∧ 0 < L (atL now k)
    · rw [if_pos hc]
      obtain ⟨h1, h2⟩ := hc
      have h1' : atL now k ∈ M := by simpa using h1
      refine ⟨by simp [ih.len], fun n h => ?_, ?_, fun p x h => ?_⟩
      · obtain ⟨c1, c2⟩ := ih.cnt n h
        dsimp only
        rw [hasK_succ, count_snoc]
        by_cases e : atL now k = n
        · subst e
          simp only [if_true, updI]
          omega
        · have e' : ¬ n = atL now k := fun h => e h.symm
          simp only [if_neg e, updI, if_neg e']
          omega
      · dsimp only
        rw [sum_upd hn L h1', ih.sum, count_snoc, if_neg (hm _ h1')]
        omega
      · dsimp only at h ⊢
        by_cases hp : p < O.length
        · rw [List.getElem?_append_left hp] at h
          rcases ih.each p x h with ⟨e1, e2⟩ | h
          · refine .inl ⟨e1, fun hmem => ?_⟩
            have := e2 hmem
            by_cases e : atL now p = atL now k
            · rw [e] at this; omega
            · simp only [updI, if_neg e]; exact this
          · exact .inr h
        · rw [List.getElem?_append_right (by omega)] at h
          have hk : p - O.length = 0 := by
            rcases Nat.eq_zero_or_pos (p - O.length) with h0 | h0
            · exact h0
            · rw [List.getElem?_eq_none (by simp; omega)] at h; simp at h
          have hpk : p = k := by have := ih.len; omega
          subst hpk
          rw [hk] at h
          simp at h
          subst h
          exact .inr ⟨rfl, h1'⟩
    · rw [if_neg hc]
      refine ⟨by simp [ih.len], fun n h => ?_, ?_, fun p x h => ?_⟩
      · obtain ⟨c1, c2⟩ := ih.cnt n h
        dsimp only
        rw [hasK_succ, count_snoc, if_neg (fun e => hm n h e.symm)]
        by_cases e : atL now k = n
        · subst e
          have h0 : ¬ 0 < L (atL now k) := fun h0 => hc ⟨by simpa using h, h0⟩
          simp only [if_true]
          omega
        · simp only [if_neg e]
          omega
      · dsimp only
        rw [ih.sum, count_snoc, if_pos rfl]
        omega
      · dsimp only at h ⊢
        by_cases hp : p < O.length
        · rw [List.getElem?_append_left hp] at h
          exact ih.each p x h
        · rw [List.getElem?_append_right (by omega)] at h
          have hk : p - O.length = 0 := by
            rcases Nat.eq_zero_or_pos (p - O.length) with h0 | h0
            · exact h0
            · rw [List.getElem?_eq_none (by simp; omega)] at h; simp at h
          have hpk : p = k := by have := ih.len; omega
          subst hpk
          rw [hk] at h
          simp at h
          subst h
          refine .inl ⟨rfl, fun hmem => ?_⟩
          have h0 : ¬ 0 < L (atL now p) := fun h0 => hc ⟨by simpa using hmem, h0⟩
          have := (ih.cnt _ hmem).2
          have := (ih.cnt _ hmem).1
          have := hq _ hmem
          omega

/- What is given. -/
/-- Whom a part is given to: of those that lack some and whom f lets, the one that lacks most, the first of them. -/
def bestI (L : Int → Int) (f : Int → Bool) (best : Option Int) : List Int → Option Int
  | [] => best
  | n :: M => bestI L f (if 0 < L n ∧ f n = true ∧ (∀ b, best = some b → L b < L n) then some n else best) M
def pickI (M : List Int) (L : Int → Int) (a b : Int) : Option Int :=
  match bestI L (fun n => n != a && n != b) none M with
  | some n => some n
  | none => bestI L (fun _ => true) none M
theorem bestI_some {L : Int → Int} {f : Int → Bool} : ∀ {M : List Int} {b : Option Int} {n : Int}, bestI L f b M = some n → b = some n ∨ (n ∈ M ∧ 0 < L n ∧ f n = true)
  | [], _, _, h => .inl h
  | a :: M, b, n, h => by
    unfold bestI at h
    rcases bestI_some h with h1 | ⟨h1, h2⟩
    · split at h1
      · rename_i hc
        obtain rfl := Option.some.inj h1
        exact .inr ⟨List.mem_cons_self, hc.1, hc.2.1⟩
      · exact .inl h1
    · exact .inr ⟨List.mem_cons_of_mem _ h1, h2⟩
theorem bestI_has {L : Int → Int} {f : Int → Bool} : ∀ {M : List Int} {b : Option Int}, (b ≠ none ∨ ∃ n ∈ M, 0 < L n ∧ f n = true) → ∃ n, bestI L f b M = some n
  | [], b, h => by
    rcases h with h | ⟨n, hn, _⟩
    · exact Option.ne_none_iff_exists'.1 h
    · simp at hn
  | a :: M, b, h => by
    unfold bestI
    apply bestI_has
    rcases h with h | ⟨n, hn, h1, h2⟩
    · left
      split
      · simp
      · exact h
    · rcases List.mem_cons.1 hn with rfl | hn
      · left
        split
        · simp
        · rename_i hc
          cases b with
          | none => exact absurd ⟨h1, h2, fun b hb => by simp at hb⟩ hc
          | some x => simp
      · exact .inr ⟨n, hn, h1, h2⟩
theorem pickI_in {M : List Int} {L : Int → Int} {a b n : Int} (h : pickI M L a b = some n) : n ∈ M ∧ 0 < L n := by
  unfold pickI at h
  split at h
  · rename_i x hx
    obtain rfl := Option.some.inj h
    rcases bestI_some hx with h1 | h1
    · simp at h1
    · exact ⟨h1.1, h1.2.1⟩
  · rcases bestI_some h with h1 | h1
    · simp at h1
    · exact ⟨h1.1, h1.2.1⟩
theorem pickI_has {M : List Int} {L : Int → Int} (a b : Int) (h : ∃ n ∈ M, 0 < L n) : ∃ n, pickI M L a b = some n := by
  unfold pickI
  split
  · exact ⟨_, rfl⟩
  · obtain ⟨n, hn, h1⟩ := h
    exact bestI_has (.inr ⟨n, hn, h1, rfl⟩)
/-- Part by part, each that nobody kept is given away. -/
def giveK (M : List Int) (x : List Int × (Int → Int)) : Nat → List Int × (Int → Int)
  | 0 => x
  | k + 1 =>
    if atL (giveK M x k).1 k = -1 then
      match pickI M (giveK M x k).2 (atL (giveK M x k).1 ((k + 15) % 16)) (atL (giveK M x k).1 ((k + 1) % 16)) with
      | some n => ((giveK M x k).1.set k n, updI (giveK M x k).2 n ((giveK M x k).2 n - 1))
      | none => giveK M x k
    else giveK M x k
def assignOf (now M : List Int) : List Int := if M = [] then [] else (giveK M (keepK now M (quotaOf now M) 16) 16).1
theorem count_set {O : List Int} {k : Nat} {x y n : Int} (h : O[k]? = some x) : (O.set k y).count n + (if x = n then 1 else 0) = O.count n + (if y = n then 1 else 0) := by
  induction O generalizing k with
  | nil => simp at h
  | cons a O ih =>
    cases k with
    | zero =>
      simp only [List.getElem?_cons_zero, Option.some.injEq] at h
      subst h
      simp only [List.set_cons_zero, List.count_cons, beq_iff_eq]
      omega
    | succ k =>
      simp only [List.getElem?_cons_succ] at h
      simp only [List.set_cons_succ, List.count_cons, beq_iff_eq]
      have := ih h
      omega
structure GivesL (M : List Int) (Q : Int → Int) (O0 : List Int) (L0 : Int → Int) (k : Nat) (O : List Int) (L : Int → Int) : Prop where
  len : O.length = 16
  cnt : ∀ n ∈ M, L n = Q n - O.count n ∧ 0 ≤ L n
  sum : (M.map L).sum = O.count (-1)
  done : ∀ p, p < k → atL O p ≠ -1
  each : ∀ (p : Nat) (x : Int), O[p]? = some x → x = -1 ∨ x ∈ M
  old : ∀ (p : Nat) (x : Int), O0[p]? = some x → x ≠ -1 → O[p]? = some x
  new : ∀ (p : Nat) (x : Int), O0[p]? = some (-1) → O[p]? = some x → x = -1 ∨ 0 < L0 x
  le : ∀ n, L n ≤ L0 n
theorem atL_some {O : List Int} {k : Nat} (h : k < O.length) : O[k]? = some (atL O k) := by
  unfold atL
  rw [List.getD_eq_getElem?_getD, List.getElem?_eq_getElem h]
  rfl
theorem atL_of {O : List Int} {k : Nat} {x : Int} (h : O[k]? = some x) : atL O k = x := by
  unfold atL
  rw [List.getD_eq_getElem?_getD, h]
  rfl
theorem gives {M : List Int} {Q : Int → Int} {O0 : List Int} {L0 : Int → Int} (hn : M.Nodup) (hm : ∀ n ∈ M, n ≠ -1) (h0 : GivesL M Q O0 L0 0 O0 L0) : ∀ k, k ≤ 16 → GivesL M Q O0 L0 k (giveK M (O0, L0) k).1 (giveK M (O0, L0) k).2
  | 0, _ => h0
  | k + 1, hk => by
    have ih := gives hn hm h0 k (by omega)
    unfold giveK
    generalize (giveK M (O0, L0) k) = G at *
    obtain ⟨O, L⟩ := G
    dsimp only at ih ⊢
    have hO := atL_some (O := O) (k := k) (by rw [ih.len]; omega)
    by_cases hc : atL O k = -1
    · rw [if_pos hc]
      rw [hc] at hO
      have hpos : 0 < O.count (-1) := List.count_pos_iff.2 (List.mem_of_getElem? hO)
      obtain ⟨n, hp⟩ := pickI_has (M := M) (L := L) (atL O ((k + 15) % 16)) (atL O ((k + 1) % 16)) (sum_pos (by rw [ih.sum]; omega))
      rw [hp]
      dsimp only
      obtain ⟨hnm, hL⟩ := pickI_in hp
      have hn1 := hm n hnm
      refine ⟨by simp [ih.len], fun m hmm => ?_, ?_, fun p hpk => ?_, fun p x h => ?_, fun p x h hx => ?_, fun p x h hx => ?_, fun m => ?_⟩
      · have c := count_set (y := n) (n := m) hO
        have := ih.cnt m hmm
        have hm1 := hm m hmm
        rw [if_neg (fun e => hm1 e.symm)] at c
        by_cases e : n = m
        · subst e
          simp only [updI, if_true] at c ⊢
          omega
        · have e' : ¬ m = n := fun h => e h.symm
          simp only [updI, if_neg e'] at c ⊢
          rw [if_neg e] at c
          omega
      · have c := count_set (y := n) (n := -1) hO
        rw [if_pos rfl, if_neg hn1] at c
        rw [sum_upd hn L hnm, ih.sum]
        omega
      · by_cases e : p = k
        · subst e
          rw [atL_of (x := n) (by rw [List.getElem?_set_self (by rw [ih.len]; omega)])]
          exact hn1
        · unfold atL
          rw [List.getD_eq_getElem?_getD, List.getElem?_set_ne (fun h => e h.symm), ← List.getD_eq_getElem?_getD]
          exact ih.done p (by omega)
      · by_cases e : p = k
        · subst e
          rw [List.getElem?_set_self (by rw [ih.len]; omega)] at h
          obtain rfl := Option.some.inj h
          exact .inr hnm
        · rw [List.getElem?_set_ne (fun h => e h.symm)] at h
          exact ih.each p x h
      · have h1 := ih.old p x h hx
        by_cases e : p = k
        · subst e
          rw [hO] at h1
          exact absurd (Option.some.inj h1).symm hx
        · rw [List.getElem?_set_ne (fun h => e h.symm)]
          exact h1
      · by_cases e : p = k
        · subst e
          rw [List.getElem?_set_self (by rw [ih.len]; omega)] at hx
          obtain rfl := Option.some.inj hx
          exact .inr (Int.lt_of_lt_of_le hL (ih.le n))
        · rw [List.getElem?_set_ne (fun h => e h.symm)] at hx
          exact ih.new p x h hx
      · have := ih.le m
        by_cases e : m = n
        · subst e
          simp only [updI, if_true]
          omega
        · simp only [updI, if_neg e]
          exact this
    · rw [if_neg hc]
      refine ⟨ih.len, ih.cnt, ih.sum, fun p hpk => ?_, ih.each, ih.old, ih.new, ih.le⟩
      by_cases e : p = k
      · subst e; exact hc
      · exact ih.done p (by omega)
/-- Members: each once, none of them nobody. -/
structure MemOk (M : List Int) : Prop where
  nodup : M.Nodup
  node : ∀ n ∈ M, 0 ≤ n ∧ n < 8
theorem MemOk.ne {M : List Int} (h : MemOk M) : ∀ n ∈ M, n ≠ -1 := fun n hn => by have := h.node n hn; omega
theorem quota_pos (now M : List Int) (n : Int) : 0 ≤ quotaOf now M n := Int.le_trans (Int.natCast_nonneg _) (quota_range now M n).1
theorem gives0 {now M : List Int} (h : MemOk M) (hM : M ≠ []) : GivesL M (quotaOf now M) (keepK now M (quotaOf now M) 16).1 (keepK now M (quotaOf now M) 16).2 0 (keepK now M (quotaOf now M) 16).1 (keepK now M (quotaOf now M) 16).2 := by
  have k := keeps (now := now) (Q := quotaOf now M) h.nodup h.ne (fun n _ => quota_pos now M n) 16
  have hs := quota_sum (now := now) h.nodup hM
  generalize (keepK now M (quotaOf now M) 16).1 = O at *
  generalize (keepK now M (quotaOf now M) 16).2 = L at *
  refine ⟨k.len, fun n hn => ?_, ?_, fun p hp => by omega, fun p x hx => ?_, fun p x hx _ => hx, fun p x h1 h2 => ?_, fun n => Int.le_refl _⟩
  · have := k.cnt n hn
    omega
  · rw [k.sum, hs]
    omega
  · rcases k.each p x hx with ⟨e, _⟩ | ⟨_, e⟩
    · exact .inl e
    · exact .inr e
  · rw [h1] at h2
    exact .inl (Option.some.inj h2).symm
/-- **What Assign owes**: so many parts, each a member's, each member its quota; what was kept; nothing goes to who had its quota. -/
structure Assigned (now M O : List Int) : Prop where
  len : O.length = 16
  each : ∀ (p : Nat) (x : Int), O[p]? = some x → x ∈ M
  cnt : ∀ n ∈ M, (O.count n : Int) = quotaOf now M n
  kept : ∀ n ∈ M, ((List.range 16).countP fun p => atL now p == n && atL O p == n : Nat) = min (hasK now n 16 : Int) (quotaOf now M n)
theorem assigned {now M : List Int} (h : MemOk M) (hM : M ≠ []) : Assigned now M (assignOf now M) := by
  have e : assignOf now M = (giveK M ((keepK now M (quotaOf now M) 16).1, (keepK now M (quotaOf now M) 16).2) 16).1 := by unfold assignOf; rw [if_neg hM]
  have g := gives h.nodup h.ne (gives0 (now := now) h hM) 16 (Nat.le_refl _)
  have k := keeps (now := now) (Q := quotaOf now M) h.nodup h.ne (fun n _ => quota_pos now M n) 16
  rw [← e] at g
  generalize assignOf now M = O at *
  generalize (giveK M ((keepK now M (quotaOf now M) 16).1, (keepK now M (quotaOf now M) 16).2) 16).2 = L at *
  have hno : ∀ (p : Nat) (x : Int), O[p]? = some x → x ≠ -1 := fun p x hx => by
    have hp : p < 16 := by have := (List.getElem?_eq_some_iff.1 hx).1; rw [g.len] at this; exact this
    have := g.done p hp
    rw [atL_of hx] at this
    exact this
  have hz : O.count (-1) = 0 := by
    rw [List.count_eq_zero]
    intro hm
    obtain ⟨p, hp⟩ := List.getElem?_of_mem hm
    exact hno p _ hp rfl
  have hL := sum_zero (fun n hn => (g.cnt n hn).2) (by rw [g.sum, hz]; rfl)
  refine ⟨g.len, fun p x hx => ?_, fun n hn => ?_, fun n hn => ?_⟩
  · rcases g.each p x hx with e | e
    · exact absurd e (hno p x hx)
    · exact e
  · have := g.cnt n hn
    have := hL n hn
    omega
  · rw [← (k.cnt n hn).1]
    generalize (keepK now M (quotaOf now M) 16).1 = O1 at *
    generalize (keepK now M (quotaOf now M) 16).2 = L1 at *
    have e1 : O1.count n = (List.range 16).countP fun p => atL O1 p == n := by
      have : O1 = (List.range 16).map (atL O1) := by
        apply List.ext_getElem?
        intro p
        by_cases hp : p < 16
        · rw [atL_some (by rw [k.len]; exact hp), List.getElem?_map, List.getElem?_range hp]; rfl
        · rw [List.getElem?_eq_none (by rw [k.len]; omega), List.getElem?_eq_none (by simp; omega)]
      conv => lhs; rw [this]
      rw [List.count, List.countP_map]
      rfl
    rw [e1]
    congr 1
    apply List.countP_congr
    intro p hp
    have hp : p < 16 := List.mem_range.1 hp
    have h1 := atL_some (O := O1) (k := p) (by rw [k.len]; exact hp)
    have h2 := atL_some (O := O) (k := p) (by rw [g.len]; exact hp)
    simp only [Bool.and_eq_true, beq_iff_eq]
    constructor
    · rintro ⟨a1, a2⟩
      rcases k.each p _ h1 with ⟨b1, b2⟩ | ⟨b1, _⟩
      · rw [b1] at h1
        rcases g.new p _ h1 h2 with c | c
        · exact absurd c (hno p _ h2)
        · have := b2 (a1 ▸ hn)
          rw [a2] at c
          rw [a1] at this
          omega
      · rw [b1, a1]
    · intro a1
      rcases k.each p _ h1 with ⟨b1, _⟩ | ⟨b1, _⟩
      · exact absurd (a1.symm.trans b1) (h.ne n hn)
      · refine ⟨b1.symm.trans a1, ?_⟩
        have := g.old p _ h1 (by rw [a1]; exact h.ne n hn)
        rw [h2] at this
        rw [Option.some.inj this, a1]

/- Assigned again nothing moves. -/
theorem count_map {O : List Int} (h : O.length = 16) (n : Int) : hasK O n 16 = O.count n := by
  have e : O = (List.range 16).map (atL O) := by
    apply List.ext_getElem?
    intro p
    by_cases hp : p < 16
    · rw [atL_some (by omega), List.getElem?_map, List.getElem?_range hp]; rfl
    · rw [List.getElem?_eq_none (by omega), List.getElem?_eq_none (by simp; omega)]
  conv => rhs; rw [e]
  rw [List.count, List.countP_map]
  rfl
theorem lucky_again {now M O : List Int} (h : MemOk M) (hM : M ≠ []) (ha : Assigned now M O) : quotaOf O M = quotaOf now M := by
  have hb : ∀ n ∈ M, bigB O (16 / M.length) n = (luckyOf now M).contains n := fun n hn => by
    have h1 := ha.cnt n hn
    unfold bigB
    rw [count_map ha.len]
    unfold quotaOf at h1
    by_cases hc : (luckyOf now M).contains n = true
    · rw [if_pos hc] at h1
      rw [hc]
      exact decide_eq_true (by omega)
    · rw [if_neg hc] at h1
      have hc' : (luckyOf now M).contains n = false := by simpa using hc
      rw [hc']
      exact decide_eq_false (by omega)
  have hf : M.filter (bigB O (16 / M.length)) = M.filter (luckyOf now M).contains := List.filter_congr hb
  have hlen := filter_len (lucky_nodup (now := now) h.nodup) h.nodup fun x hx => lucky_mem hx
  have hl : luckyOf O M = M.filter (luckyOf now M).contains := by
    unfold luckyOf
    rw [show M.filter (bigB O (16 / M.length)) = M.filter (luckyOf now M).contains from hf]
    have e : (M.filter (luckyOf now M).contains).length = 16 % M.length := by rw [hlen, lucky_len hM]
    rw [List.take_append_of_le_length (by omega), List.take_of_length_le (by omega)]
    rfl
  funext n
  unfold quotaOf
  congr 1
  by_cases hc : (luckyOf now M).contains n = true
  · have h1 : n ∈ luckyOf now M := by simpa using hc
    have h2 : (luckyOf O M).contains n = true := by
      rw [hl]
      simp only [List.contains_iff_mem, List.mem_filter]
      exact ⟨lucky_mem h1, h1⟩
    rw [if_pos hc, if_pos h2]
  · have h2 : ¬ (luckyOf O M).contains n = true := by
      rw [hl]
      simp only [List.contains_iff_mem, List.mem_filter]
      intro h3
      exact hc (by simpa using h3.2)
    rw [if_neg hc, if_neg h2]
theorem keep_all {O M : List Int} {Q : Int → Int} (hl : O.length = 16) (he : ∀ (p : Nat) (x : Int), O[p]? = some x → x ∈ M) (hq : ∀ n ∈ M, (O.count n : Int) = Q n) : ∀ k, k ≤ 16 → (keepK O M Q k).1 = O.take k ∧ ∀ n, (keepK O M Q k).2 n = Q n - (O.take k).count n
  | 0, _ => ⟨by simp [keepK], fun n => by simp [keepK]⟩
  | k + 1, hk => by
    obtain ⟨h1, h2⟩ := keep_all hl he hq k (by omega)
    have hO := atL_some (O := O) (k := k) (by omega)
    have hm := he k _ hO
    have hc : (O.take (k + 1)).count (atL O k) ≤ O.count (atL O k) := (List.take_sublist _ _).count_le _
    rw [List.take_add_one, hO, Option.toList_some, count_snoc, if_pos rfl] at hc
    have hQ := hq _ hm
    have hpos : 0 < (keepK O M Q k).2 (atL O k) := by rw [h2]; omega
    unfold keepK
    rw [if_pos ⟨by simpa using hm, hpos⟩]
    refine ⟨by rw [h1, List.take_add_one, hO]; rfl, fun n => ?_⟩
    dsimp only
    rw [List.take_add_one, hO, Option.toList_some, count_snoc]
    by_cases e : atL O k = n
    · subst e
      simp only [updI, if_true]
      have := h2 (atL O k)
      omega
    · have e' : ¬ n = atL O k := fun h => e h.symm
      simp only [updI, if_neg e', if_neg e]
      have := h2 n
      omega
theorem give_none {M : List Int} {x : List Int × (Int → Int)} (h : ∀ p, p < 16 → atL x.1 p ≠ -1) : ∀ k, k ≤ 16 → giveK M x k = x
  | 0, _ => rfl
  | k + 1, hk => by
    unfold giveK
    rw [give_none h k (by omega), if_neg (h k (by omega))]
theorem assign_again {now M : List Int} (h : MemOk M) (hM : M ≠ []) : assignOf (assignOf now M) M = assignOf now M := by
  have ha := assigned (now := now) h hM
  generalize assignOf now M = O at *
  have hQ := lucky_again h hM ha
  obtain ⟨k1, _⟩ := keep_all ha.len ha.each (Q := quotaOf now M) ha.cnt 16 (Nat.le_refl _)
  rw [List.take_of_length_le (by rw [ha.len]; omega)] at k1
  unfold assignOf
  rw [if_neg hM, hQ, give_none (fun p hp => ?_) 16 (Nat.le_refl _), k1]
  rw [k1]
  have h1 := atL_some (O := O) (k := p) (by rw [ha.len]; exact hp)
  exact h.ne _ (ha.each p _ h1)
/- How many parts differ. -/
def movesOf (a b : List Int) : Nat := (List.range 16).countP fun p => atL a p != atL b p
theorem moves_self (a : List Int) : movesOf a a = 0 := by
  unfold movesOf
  rw [List.countP_eq_zero]
  intro p _
  simp
/- Where no part is a member's it is as if all were nobody's. -/
theorem keepK_none {now M : List Int} {Q : Int → Int} (h : ∀ p, p < 16 → atL now p ∉ M) : ∀ k, k ≤ 16 → keepK now M Q k = (List.replicate k (-1), Q)
  | 0, _ => rfl
  | k + 1, hk => by
    have hc : ¬ (M.contains (atL now k) = true ∧ 0 < (keepK now M Q k).2 (atL now k)) := fun hc => h k (by omega) (by simpa using hc.1)
    unfold keepK
    rw [if_neg hc, keepK_none h k (by omega), List.replicate_succ']
theorem hasK_none {now M : List Int} (h : ∀ p, p < 16 → atL now p ∉ M) {n : Int} (hn : n ∈ M) : hasK now n 16 = 0 := by
  unfold hasK
  rw [List.countP_eq_zero]
  intro p hp
  have hp : p < 16 := List.mem_range.1 hp
  simp only [beq_iff_eq]
  intro e
  exact h p hp (e ▸ hn)
theorem atL_nil (p : Nat) : atL [] p = -1 := rfl
theorem quota_none {now now' M : List Int} (h : ∀ p, p < 16 → atL now p ∉ M) (h' : ∀ p, p < 16 → atL now' p ∉ M) : quotaOf now M = quotaOf now' M := by
  have hb : ∀ n ∈ M, bigB now (16 / M.length) n = bigB now' (16 / M.length) n := fun n hn => by
    unfold bigB
    rw [hasK_none h hn, hasK_none h' hn]
  have hl : luckyOf now M = luckyOf now' M := by
    have e1 : M.filter (bigB now (16 / M.length)) = M.filter (bigB now' (16 / M.length)) := List.filter_congr hb
    have e2 : (M.filter fun n => !bigB now (16 / M.length) n) = M.filter fun n => !bigB now' (16 / M.length) n := List.filter_congr fun n hn => by rw [hb n hn]
    unfold luckyOf
    rw [e1, e2]
  funext n
  unfold quotaOf
  rw [hl]
theorem assign_none {now now' M : List Int} (h : ∀ p, p < 16 → atL now p ∉ M) (h' : ∀ p, p < 16 → atL now' p ∉ M) : assignOf now M = assignOf now' M := by
  unfold assignOf
  rw [quota_none h h', keepK_none h 16 (Nat.le_refl _), keepK_none h' 16 (Nat.le_refl _)]
/- Of each member as many parts stay as it has, up to its quota; all others move. -/
theorem countP_each (f : Nat → Int) (g : Nat → Bool) : ∀ {M : List Int} (l : List Nat), M.Nodup → (∀ p ∈ l, g p = true → f p ∈ M) → l.countP g = ((M.map fun n => l.countP fun p => g p && f p == n).sum : Nat)
  | M, [], _, _ => by
    have hz : ∀ M : List Int, (M.map fun _ => 0).sum = 0 := fun M => by
      induction M with
      | nil => rfl
      | cons a M ih => simpa using ih
    simp only [List.countP_nil]
    exact (hz M).symm
  | M, p :: l, hn, h => by
    have ih := countP_each f g l hn fun q hq => h q (List.mem_cons_of_mem _ hq)
    simp only [List.countP_cons]
    rw [ih]
    by_cases hg : g p = true
    · have hm := h p List.mem_cons_self hg
      have key : ∀ {M : List Int}, M.Nodup → f p ∈ M → (M.map fun n => (l.countP fun q => g q && f q == n) + if (g p && f p == n) = true then 1 else 0).sum = (M.map fun n => l.countP fun q => g q && f q == n).sum + 1 := by
        intro M hn hm
        induction M with
        | nil => simp at hm
        | cons a M ih2 =>
          have hna := List.nodup_cons.1 hn
          simp only [List.map_cons, List.sum_cons]
          by_cases e : f p = a
          · subst e
            have hz : (M.map fun n => (l.countP fun q => g q && f q == n) + if (g p && f p == n) = true then 1 else 0) = M.map fun n => l.countP fun q => g q && f q == n := List.map_congr_left fun x hx => by
              have : ¬ f p = x := fun h => hna.1 (h ▸ hx)
              simp [this]
            rw [hz]
            simp [hg]
            omega
          · have h1 : f p ∈ M := by
              rcases List.mem_cons.1 hm with h | h
              · exact absurd h e
              · exact h
            rw [ih2 hna.2 h1]
            have : (g p && f p == a) = false := by simp [e]
            rw [this]
            simp
            omega
      rw [key hn hm, if_pos hg]
    · have hz : (M.map fun n => (l.countP fun q => g q && f q == n) + if (g p && f p == n) = true then 1 else 0) = M.map fun n => l.countP fun q => g q && f q == n := List.map_congr_left fun x _ => by simp [hg]
      rw [hz, if_neg hg]
      rfl
theorem countP_not (g : Nat → Bool) : ∀ l : List Nat, (l.countP fun p => !g p) + l.countP g = l.length
  | [] => rfl
  | p :: l => by
    have := countP_not g l
    simp only [List.countP_cons, List.length_cons]
    cases g p <;> simp <;> omega
/-- How many of a member's parts stay. -/
def keptC (now O : List Int) (n : Int) : Nat := (List.range 16).countP fun p => atL now p == n && atL O p == n
theorem moves_stay {now M O : List Int} (h : MemOk M) (ha : Assigned now M O) : (movesOf O now : Nat) + (M.map (keptC now O)).sum = 16 := by
  have h1 := countP_each (fun p => atL O p) (fun p => atL O p == atL now p) (M := M) (List.range 16) h.nodup fun p hp _ => ha.each p _ (atL_some (by rw [ha.len]; exact List.mem_range.1 hp))
  have h2 := countP_not (fun p => atL O p == atL now p) (List.range 16)
  have e : (M.map fun n => (List.range 16).countP fun p => (atL O p == atL now p) && atL O p == n) = M.map (keptC now O) := List.map_congr_left fun n _ => by
    unfold keptC
    apply List.countP_congr
    intro p _
    simp only [Bool.and_eq_true, beq_iff_eq]
    constructor
    · rintro ⟨a, b⟩; exact ⟨a.symm.trans b, b⟩
    · rintro ⟨a, b⟩; exact ⟨b.trans a.symm, b⟩
  rw [e] at h1
  rw [← h1]
  have e2 : movesOf O now = (List.range 16).countP fun p => !(atL O p == atL now p) := rfl
  rw [e2, h2]
  simp
/-- Who keeps all it has keeps each part. -/
theorem countP_sub {f g : Nat → Bool} : ∀ {l : List Nat}, (∀ p ∈ l, f p = true → g p = true) → l.countP g ≤ l.countP f → ∀ p ∈ l, g p = true → f p = true
  | [], _, _, p, hp, _ => by simp at hp
  | a :: l, h, hc, p, hp, hg => by
    have hl : l.countP f ≤ l.countP g := List.countP_mono_left fun q hq hf => h q (List.mem_cons_of_mem _ hq) hf
    simp only [List.countP_cons] at hc
    by_cases hfa : f a = true
    · have hga := h a List.mem_cons_self hfa
      rw [if_pos hfa, if_pos hga] at hc
      rcases List.mem_cons.1 hp with rfl | hp
      · exact hfa
      · exact countP_sub (fun q hq => h q (List.mem_cons_of_mem _ hq)) (by omega) p hp hg
    · by_cases hga : g a = true
      · rw [if_neg hfa, if_pos hga] at hc
        omega
      · rw [if_neg hfa, if_neg hga] at hc
        rcases List.mem_cons.1 hp with rfl | hp
        · exact absurd hg hga
        · exact countP_sub (fun q hq => h q (List.mem_cons_of_mem _ hq)) (by omega) p hp hg
/-- Who has no more than its quota keeps it all. -/
theorem stays {now M O : List Int} (ha : Assigned now M O) {n : Int} (hn : n ∈ M) (hq : (hasK now n 16 : Int) ≤ quotaOf now M n) {p : Nat} (hp : p < 16) (h : atL now p = n) : atL O p = n := by
  have hk := ha.kept n hn
  rw [Int.min_eq_left hq] at hk
  have := countP_sub (f := fun p => atL now p == n && atL O p == n) (g := fun p => atL now p == n) (l := List.range 16) (fun p _ h => by simp only [Bool.and_eq_true] at h; exact h.1) (by unfold hasK at hk; omega) p (List.mem_range.2 hp) (by simpa using h)
  simp only [Bool.and_eq_true, beq_iff_eq] at this
  exact this.2
/-- Who had at least its quota gets nothing more. -/
theorem gets_none {now M O : List Int} (ha : Assigned now M O) {n : Int} (hn : n ∈ M) (hq : quotaOf now M n ≤ (hasK now n 16 : Int)) {p : Nat} (hp : p < 16) (h : atL O p = n) : atL now p = n := by
  have hk := ha.kept n hn
  rw [Int.min_eq_right hq, ← ha.cnt n hn, ← count_map ha.len] at hk
  have := countP_sub (f := fun p => atL now p == n && atL O p == n) (g := fun p => atL O p == n) (l := List.range 16) (fun p _ h => by simp only [Bool.and_eq_true] at h; exact h.2) (by unfold hasK at hk; omega) p (List.mem_range.2 hp) (by simpa using h)
  simp only [Bool.and_eq_true, beq_iff_eq] at this
  exact this.1
/- One comes, one goes. -/
theorem nodup_len {A : List Int} (hA : A.Nodup) : ∀ {B : List Int}, (∀ x ∈ A, x ∈ B) → A.length ≤ B.length := by
  induction A with
  | nil => intro B _; exact Nat.zero_le _
  | cons a A ih =>
    intro B h
    have hna := List.nodup_cons.1 hA
    have ha := h a List.mem_cons_self
    have := ih hna.2 (B := B.erase a) fun x hx => (List.mem_erase_of_ne (fun e : x = a => hna.1 (e ▸ hx))).2 (h x (List.mem_cons_of_mem _ hx))
    rw [List.length_erase_of_mem ha] at this
    have := List.length_pos_of_mem ha
    simp only [List.length_cons]
    omega
theorem lucky_big {now M : List Int} (hl : 16 % M.length ≤ (M.filter (bigB now (16 / M.length))).length) {n : Int} (h : n ∈ luckyOf now M) : 16 / M.length < hasK now n 16 := by
  unfold luckyOf at h
  rw [List.take_append_of_le_length hl] at h
  have := (List.mem_filter.1 (List.mem_of_mem_take h)).2
  exact of_decide_eq_true this
theorem big_lucky {now M : List Int} (hl : (M.filter (bigB now (16 / M.length))).length ≤ 16 % M.length) {n : Int} (hn : n ∈ M) (h : 16 / M.length < hasK now n 16) : n ∈ luckyOf now M := by
  unfold luckyOf
  rw [List.take_append]
  exact List.mem_append_left _ (by rw [List.take_of_length_le hl]; exact List.mem_filter.2 ⟨hn, decide_eq_true h⟩)
theorem quota_lucky {now M : List Int} {n : Int} : (n ∈ luckyOf now M ∧ quotaOf now M n = (16 / M.length : Nat) + 1) ∨ (n ∉ luckyOf now M ∧ quotaOf now M n = (16 / M.length : Nat)) := by
  unfold quotaOf
  by_cases h : n ∈ luckyOf now M
  · exact .inl ⟨h, by rw [if_pos (by simpa using h)]⟩
  · exact .inr ⟨h, by rw [if_neg (by simpa using h)]; omega⟩
/-- R's members and n. -/
structure OneMore (R M : List Int) (n : Int) : Prop where
  okR : MemOk R
  okM : MemOk M
  ne : R ≠ []
  new : n ∉ R
  mem : ∀ x, x ∈ M ↔ x ∈ R ∨ x = n
theorem OneMore.len {R M : List Int} {n : Int} (h : OneMore R M n) : M.length = R.length + 1 := by
  have h1 := nodup_len h.okM.nodup (B := n :: R) fun x hx => by
    rcases (h.mem x).1 hx with e | e
    · exact List.mem_cons_of_mem _ e
    · exact e ▸ List.mem_cons_self
  have h2 := nodup_len (A := n :: R) (List.nodup_cons.2 ⟨h.new, h.okR.nodup⟩) (B := M) fun x hx => (h.mem x).2 (by
    rcases List.mem_cons.1 hx with e | e
    · exact .inr e
    · exact .inl e)
  simp only [List.length_cons] at h1 h2
  omega
theorem shares {k : Nat} (hk : 0 < k) : 16 / (k + 1) < 16 / k ∨ (16 / (k + 1) = 16 / k ∧ 16 % (k + 1) ≤ 16 % k) := by
  have h1 := Nat.div_add_mod 16 k
  have h2 := Nat.div_add_mod 16 (k + 1)
  have h3 : 16 / (k + 1) ≤ 16 / k := Nat.div_le_div_left (by omega) hk
  rcases Nat.lt_or_ge (16 / (k + 1)) (16 / k) with h | h
  · exact .inl h
  · have e : 16 / (k + 1) = 16 / k := by omega
    refine .inr ⟨e, ?_⟩
    rw [e, Nat.add_mul] at h2
    omega
theorem come_less {now R M A : List Int} {n : Int} (h : OneMore R M n) (ha : Assigned now R A) {r : Int} (hr : r ∈ R) : quotaOf A M r ≤ (hasK A r 16 : Int) := by
  have hk : 0 < R.length := List.length_pos_iff.2 h.ne
  rw [count_map ha.len, ha.cnt r hr]
  rcases shares hk with hs | ⟨hs, he⟩
  · rw [← h.len] at hs
    have := (quota_range A M r).2
    have := (quota_range now R r).1
    omega
  · rw [← h.len] at hs he
    have hbig : 16 % M.length ≤ (M.filter (bigB A (16 / M.length))).length := by
      refine Nat.le_trans he ?_
      rw [← lucky_len (now := now) h.ne]
      refine nodup_len (lucky_nodup h.okR.nodup) fun x hx => ?_
      have hxR := lucky_mem hx
      refine List.mem_filter.2 ⟨(h.mem x).2 (.inl hxR), decide_eq_true ?_⟩
      rw [count_map ha.len]
      have := ha.cnt x hxR
      rcases quota_lucky (now := now) (M := R) (n := x) with ⟨_, e⟩ | ⟨e, _⟩
      · omega
      · exact absurd hx e
    have hlow := (quota_range now R r).1
    rcases quota_lucky (now := A) (M := M) (n := r) with ⟨hl, e⟩ | ⟨_, e⟩
    · have := lucky_big hbig hl
      rw [count_map ha.len] at this
      have := ha.cnt r hr
      omega
    · omega
theorem goes_less {A R M B : List Int} {n : Int} (h : OneMore R M n) (hb : Assigned A M B) {r : Int} (hr : r ∈ R) : (hasK B r 16 : Int) ≤ quotaOf B R r := by
  have hk : 0 < R.length := List.length_pos_iff.2 h.ne
  have hM : M ≠ [] := fun e => by have := h.len; rw [e] at this; simp at this
  rw [count_map hb.len, hb.cnt r ((h.mem r).2 (.inl hr))]
  rcases shares hk with hs | ⟨hs, he⟩
  · rw [← h.len] at hs
    have := (quota_range A M r).2
    have := (quota_range B R r).1
    omega
  · rw [← h.len] at hs he
    have hbig : (R.filter (bigB B (16 / R.length))).length ≤ 16 % R.length := by
      refine Nat.le_trans ?_ he
      rw [← lucky_len (now := A) hM]
      refine nodup_len (h.okR.nodup.sublist List.filter_sublist) fun x hx => ?_
      obtain ⟨hxR, hx⟩ := List.mem_filter.1 hx
      have hx : 16 / R.length < hasK B x 16 := of_decide_eq_true hx
      rw [count_map hb.len] at hx
      have := hb.cnt x ((h.mem x).2 (.inl hxR))
      rcases quota_lucky (now := A) (M := M) (n := x) with ⟨e, _⟩ | ⟨_, e⟩
      · exact e
      · omega
    rcases quota_lucky (now := A) (M := M) (n := r) with ⟨hl, e⟩ | ⟨_, e⟩
    · have h1 : 16 / R.length < hasK B r 16 := by
        rw [count_map hb.len]
        have := hb.cnt r ((h.mem r).2 (.inl hr))
        omega
      have h2 := big_lucky hbig hr h1
      rcases quota_lucky (now := B) (M := R) (n := r) with ⟨_, e2⟩ | ⟨e2, _⟩
      · omega
      · exact absurd h2 e2
    · have := (quota_range B R r).1
      omega
/-- **One comes: only what it gets moves; it goes: only what it had.** -/
theorem come_go {now R M A B C : List Int} {n : Int} (h : OneMore R M n) (ha : Assigned now R A) (hb : Assigned A M B) (hc : Assigned B R C) {p : Nat} (hp : p < 16) : (atL A p ≠ atL B p → atL B p = n) ∧ (atL B p ≠ atL C p → atL B p = n) ∧ atL C p ≠ n := by
  have eB := hb.each p _ (atL_some (by rw [hb.len]; exact hp))
  have eC := hc.each p _ (atL_some (by rw [hc.len]; exact hp))
  refine ⟨fun hne => ?_, fun hne => ?_, fun e => h.new (e ▸ eC)⟩
  · rcases (h.mem _).1 eB with hr | e
    · exact absurd (gets_none hb eB (come_less h ha hr) hp rfl) hne
    · exact e
  · rcases (h.mem _).1 eB with hr | e
    · exact absurd (stays hc hr (goes_less h hb hr) hp rfl).symm hne
    · exact e
end
section

def bigsK (now M : List Int) (k : Nat) : Nat := (M.take k).countP (bigB now (16 / M.length))
def smallsK (now M : List Int) (k : Nat) : Nat := (M.take k).countP fun n => !bigB now (16 / M.length) n
def q0L (now M : List Int) (k : Nat) : List Int := (List.range k).map fun i => ((16 / M.length : Nat) : Int) + (if bigB now (16 / M.length) (M.getD i 0) = true ∧ bigsK now M i < 16 % M.length then 1 else 0)
theorem countP_take {f : Int → Bool} {M : List Int} {k : Nat} {m : Int} (h : M[k]? = some m) : (M.take (k + 1)).countP f = (M.take k).countP f + (if f m = true then 1 else 0) := by
  rw [List.take_add_one, h, Option.toList_some, List.countP_append]
  simp [List.countP_cons]
theorem filter_at {f : Int → Bool} : ∀ {M : List Int} {k : Nat} {m : Int}, M[k]? = some m → f m = true → (M.filter f)[(M.take k).countP f]? = some m
  | [], k, m, h, _ => by simp at h
  | a :: M, 0, m, h, hf => by
    simp only [List.getElem?_cons_zero, Option.some.injEq] at h
    subst h
    simp [hf]
  | a :: M, k + 1, m, h, hf => by
    have ih := filter_at (f := f) (M := M) (k := k) (by simpa using h) hf
    rw [List.take_succ_cons, List.countP_cons, List.filter_cons]
    by_cases ha : f a = true
    · rw [if_pos ha, if_pos ha, List.getElem?_cons_succ]; exact ih
    · rw [if_neg ha, if_neg ha, Nat.add_zero]; exact ih
theorem mem_take {l : List Int} (hn : l.Nodup) {j e : Nat} {x : Int} (h : l[j]? = some x) : x ∈ l.take e ↔ j < e := by
  constructor
  · intro hx
    obtain ⟨i, hi⟩ := List.getElem?_of_mem hx
    have hie : i < e := by
      have := (List.getElem?_eq_some_iff.1 hi).1
      rw [List.length_take] at this
      omega
    rw [List.getElem?_take, if_pos hie] at hi
    have h1 := List.getElem?_eq_some_iff.1 hi
    have h2 := List.getElem?_eq_some_iff.1 h
    have : i = j := (List.getElem_inj hn).1 (h1.2.trans h2.2.symm)
    omega
  · intro hj
    exact List.mem_of_getElem? (i := j) (by rw [List.getElem?_take, if_pos hj]; exact h)
theorem bigs_small (now M : List Int) : bigsK now M M.length = (M.filter (bigB now (16 / M.length))).length := by
  unfold bigsK
  rw [List.take_length, List.countP_eq_length_filter]
theorem quota_at {now M : List Int} (hn : M.Nodup) {k : Nat} {m : Int} (h : M[k]? = some m) : quotaOf now M m = ((16 / M.length : Nat) : Int) + (if (if bigB now (16 / M.length) m = true then bigsK now M k < 16 % M.length else bigsK now M M.length + smallsK now M k < 16 % M.length) then 1 else 0) := by
  have hl : m ∈ luckyOf now M ↔ (if bigB now (16 / M.length) m = true then bigsK now M k < 16 % M.length else bigsK now M M.length + smallsK now M k < 16 % M.length) := by
    unfold luckyOf
    have hnd : (M.filter (bigB now (16 / M.length)) ++ M.filter fun n => !bigB now (16 / M.length) n).Nodup := (lucky_perm M (bigB now (16 / M.length))).nodup_iff.2 hn
    by_cases hb : bigB now (16 / M.length) m = true
    · rw [if_pos hb]
      refine mem_take hnd ?_
      have h1 := filter_at h hb
      have h2 := (List.getElem?_eq_some_iff.1 h1).1
      exact (List.getElem?_append_left h2).trans h1
    · rw [if_neg hb]
      have hb' : (fun n => !bigB now (16 / M.length) n) m = true := by simpa using hb
      refine mem_take hnd ?_
      have h1 := filter_at (f := fun n => !bigB now (16 / M.length) n) h hb'
      rw [bigs_small, List.getElem?_append_right (by omega), Nat.add_sub_cancel_left]
      exact h1
  unfold quotaOf
  congr 1
  by_cases hc : m ∈ luckyOf now M
  · rw [if_pos (by simpa using hc), if_pos (hl.1 hc)]
  · rw [if_neg (by simpa using hc), if_neg (fun h => hc (hl.2 h))]
theorem q0L_len (now M : List Int) (k : Nat) : (q0L now M k).length = k := by simp [q0L]
theorem q0L_succ {now M : List Int} {k : Nat} {m : Int} (h : M[k]? = some m) : q0L now M (k + 1) = q0L now M k ++ [((16 / M.length : Nat) : Int) + (if bigB now (16 / M.length) m = true ∧ bigsK now M k < 16 % M.length then 1 else 0)] := by
  unfold q0L
  have e : M.getD k 0 = m := by rw [List.getD_eq_getElem?_getD, h]; rfl
  rw [List.range_succ, List.map_append, List.map_cons, List.map_nil, e]
theorem set_mid (A : List Int) (x y : Int) (B : List Int) : (A ++ x :: B).set A.length y = A ++ y :: B := by
  rw [List.set_append_right _ _ (Nat.le_refl _), Nat.sub_self]
  rfl
/-- Round 0, and round 1, so far. -/
def rnd0 (now M : List Int) (k : Nat) : List Int := q0L now M k ++ List.replicate (M.length - k) 0
def rnd1 (now M : List Int) (k : Nat) : List Int := (M.take k).map (quotaOf now M) ++ (q0L now M M.length).drop k
theorem rnd0_len (now M : List Int) {k : Nat} (h : k ≤ M.length) : (rnd0 now M k).length = M.length := by simp [rnd0, q0L_len]; omega
theorem rnd1_len (now M : List Int) {k : Nat} (h : k ≤ M.length) : (rnd1 now M k).length = M.length := by simp [rnd1, q0L_len]; omega
theorem rnd0_end (now M : List Int) : rnd0 now M M.length = rnd1 now M 0 := by simp [rnd0, rnd1]
theorem rnd1_end (now M : List Int) : rnd1 now M M.length = quotasOf now M := by
  unfold rnd1 quotasOf
  rw [List.take_length, List.drop_eq_nil_of_le (by rw [q0L_len]; exact Nat.le_refl _), List.append_nil]
theorem rnd0_step {now M : List Int} {k : Nat} {m : Int} (h : M[k]? = some m) : rnd0 now M (k + 1) = (rnd0 now M k).set k (((16 / M.length : Nat) : Int) + (if bigB now (16 / M.length) m = true ∧ bigsK now M k < 16 % M.length then 1 else 0)) := by
  have hk := (List.getElem?_eq_some_iff.1 h).1
  unfold rnd0
  obtain ⟨r, hr⟩ : ∃ r, M.length - k = r + 1 := ⟨M.length - k - 1, by omega⟩
  have hr2 : M.length - (k + 1) = r := by omega
  rw [hr, hr2, List.replicate_succ, q0L_succ h, List.append_assoc]
  have := set_mid (q0L now M k) 0 (((16 / M.length : Nat) : Int) + (if bigB now (16 / M.length) m = true ∧ bigsK now M k < 16 % M.length then 1 else 0)) (List.replicate r 0)
  rw [q0L_len] at this
  rw [this]
  rfl
theorem q0L_at {now M : List Int} {k : Nat} {m : Int} (h : M[k]? = some m) : (q0L now M M.length)[k]? = some (((16 / M.length : Nat) : Int) + (if bigB now (16 / M.length) m = true ∧ bigsK now M k < 16 % M.length then 1 else 0)) := by
  have hk := (List.getElem?_eq_some_iff.1 h).1
  have e : M.getD k 0 = m := by rw [List.getD_eq_getElem?_getD, h]; rfl
  unfold q0L
  rw [List.getElem?_map, List.getElem?_range hk, Option.map_some, e]
theorem rnd1_at {now M : List Int} {k : Nat} {m : Int} (h : M[k]? = some m) : (rnd1 now M k)[k]? = some (((16 / M.length : Nat) : Int) + (if bigB now (16 / M.length) m = true ∧ bigsK now M k < 16 % M.length then 1 else 0)) := by
  have hk := (List.getElem?_eq_some_iff.1 h).1
  unfold rnd1
  have hl : ((M.take k).map (quotaOf now M)).length = k := by simp; omega
  rw [List.getElem?_append_right (by omega), hl, Nat.sub_self, List.getElem?_drop, Nat.add_zero]
  exact q0L_at h
theorem rnd1_step {now M : List Int} {k : Nat} {m : Int} (h : M[k]? = some m) : rnd1 now M (k + 1) = (rnd1 now M k).set k (quotaOf now M m) := by
  have hk := (List.getElem?_eq_some_iff.1 h).1
  have hl : ((M.take k).map (quotaOf now M)).length = k := by simp; omega
  have hd : (q0L now M M.length).drop k = (((16 / M.length : Nat) : Int) + (if bigB now (16 / M.length) m = true ∧ bigsK now M k < 16 % M.length then 1 else 0)) :: (q0L now M M.length).drop (k + 1) := by
    rw [List.drop_eq_getElem_cons (by rw [q0L_len]; exact hk)]
    congr 1
    have := q0L_at (now := now) h
    rw [List.getElem?_eq_getElem (by rw [q0L_len]; exact hk)] at this
    exact Option.some.inj this
  unfold rnd1
  rw [hd]
  have := set_mid ((M.take k).map (quotaOf now M)) (((16 / M.length : Nat) : Int) + (if bigB now (16 / M.length) m = true ∧ bigsK now M k < 16 % M.length then 1 else 0)) (quotaOf now M m) ((q0L now M M.length).drop (k + 1))
  rw [hl] at this
  rw [this, List.take_add_one, h, Option.toList_some, List.map_append, List.append_assoc]
  rfl
end
section

/-- Of the first i members one is a and lacks some. -/
def hitB (M : List Int) (L : Int → Int) (a : Int) (i : Nat) : Bool := (M.take i).contains a && decide (0 < L a)
def keepV (M : List Int) (L : Int → Int) (a : Int) (i : Nat) : Int := if hitB M L a i = true then a else -1
def keepL (M : List Int) (L : Int → Int) (a : Int) (i : Nat) : Int → Int := if hitB M L a i = true then updI L a (L a - 1) else L
theorem hit_zero (M : List Int) (L : Int → Int) (a : Int) : hitB M L a 0 = false := by simp [hitB]
theorem hit_succ {M : List Int} {L : Int → Int} {a m : Int} {i : Nat} (h : M[i]? = some m) : hitB M L a (i + 1) = (hitB M L a i || (decide (a = m) && decide (0 < L a))) := by
  unfold hitB
  rw [List.take_add_one, h, Option.toList_some]
  simp only [List.contains_eq_mem, List.mem_append, List.mem_singleton]
  by_cases h1 : a ∈ M.take i <;> by_cases h2 : a = m <;> simp [h1, h2]
theorem hit_not {M : List Int} (hn : M.Nodup) (L : Int → Int) {m : Int} {i : Nat} (h : M[i]? = some m) : hitB M L m i = false := by
  unfold hitB
  have : ¬ m ∈ M.take i := fun hx => by have := (mem_take hn h).1 hx; omega
  simp [this]
theorem keepV_zero (M : List Int) (L : Int → Int) (a : Int) : keepV M L a 0 = -1 := by simp [keepV, hit_zero]
theorem keepL_zero (M : List Int) (L : Int → Int) (a : Int) : keepL M L a 0 = L := by simp [keepL, hit_zero]
/-- The member that it is: it gets the part. -/
theorem keep_hit {M : List Int} (hn : M.Nodup) {L : Int → Int} {m : Int} {i : Nat} (h : M[i]? = some m) (hp : 0 < L m) : keepV M L m (i + 1) = m ∧ M.map (keepL M L m (i + 1)) = (M.map (keepL M L m i)).set i (L m - 1) := by
  have h1 := hit_succ (L := L) (a := m) h
  rw [hit_not hn L h] at h1
  simp only [hp, decide_true, Bool.and_self, Bool.or_true] at h1
  refine ⟨by rw [keepV, if_pos h1], ?_⟩
  rw [keepL, if_pos h1, keepL, hit_not hn L h, if_neg (by simp)]
  exact map_upd hn L h _
theorem keepL_at {M : List Int} (hn : M.Nodup) {L : Int → Int} {m : Int} {i : Nat} (h : M[i]? = some m) : keepL M L m i = L := by
  rw [keepL, hit_not hn L h, if_neg (by simp)]
theorem keep_miss {M : List Int} {L : Int → Int} {a m : Int} {i : Nat} (h : M[i]? = some m) (hp : a ≠ m ∨ ¬ 0 < L a) : keepV M L a (i + 1) = keepV M L a i ∧ keepL M L a (i + 1) = keepL M L a i := by
  have h1 := hit_succ (L := L) (a := a) h
  have h2 : (decide (a = m) && decide (0 < L a)) = false := by
    rcases hp with h | h <;> simp [h]
  rw [h2, Bool.or_false] at h1
  unfold keepV keepL
  rw [h1]
  exact ⟨rfl, rfl⟩
def oA (now M : List Int) (Q : Int → Int) (k : Nat) : List Int := (keepK now M Q k).1 ++ List.replicate (16 - k) 0
theorem keepK_len (now M : List Int) (Q : Int → Int) : ∀ k, (keepK now M Q k).1.length = k
  | 0 => rfl
  | k + 1 => by
    have := keepK_len now M Q k
    unfold keepK
    split <;> simp [this]
theorem oA_len (now M : List Int) (Q : Int → Int) {k : Nat} (h : k ≤ 16) : (oA now M Q k).length = 16 := by simp [oA, keepK_len]; omega
theorem oA_end (now M : List Int) (Q : Int → Int) : oA now M Q 16 = (keepK now M Q 16).1 := by simp [oA]
theorem oA_step (now M : List Int) (Q : Int → Int) {k : Nat} (hk : k < 16) : oA now M Q (k + 1) = (oA now M Q k).set k (keepV M (keepK now M Q k).2 (atL now k) M.length) ∧ (keepK now M Q (k + 1)).2 = keepL M (keepK now M Q k).2 (atL now k) M.length := by
  have hh : hitB M (keepK now M Q k).2 (atL now k) M.length = true ↔ (M.contains (atL now k) = true ∧ 0 < (keepK now M Q k).2 (atL now k)) := by
    unfold hitB
    rw [List.take_length]
    simp
  have hr : List.replicate (16 - k) (0 : Int) = 0 :: List.replicate (16 - (k + 1)) 0 := by
    rw [← List.replicate_succ]
    congr 1
    omega
  have hl := keepK_len now M Q k
  unfold oA
  rw [hr]
  have hs := fun y => set_mid (keepK now M Q k).1 0 y (List.replicate (16 - (k + 1)) 0)
  rw [hl] at hs
  rw [hs]
  unfold keepV keepL
  by_cases hc : M.contains (atL now k) = true ∧ 0 < (keepK now M Q k).2 (atL now k)
  · rw [if_pos (hh.2 hc), if_pos (hh.2 hc), keepK, if_pos hc]
    simp
  · rw [if_neg (fun h => hc (hh.1 h)), if_neg (fun h => hc (hh.1 h)), keepK, if_neg hc]
    simp
theorem keep_bound {now M : List Int} (h : MemOk M) {k : Nat} {m : Int} (hm : m ∈ M) : (keepK now M (quotaOf now M) k).2 m ≤ 17 := by
  have c := ((keeps (now := now) (Q := quotaOf now M) h.nodup h.ne (fun n _ => quota_pos now M n) k).cnt m hm).2
  have q := (quota_range now M m).2
  have d : (16 / M.length : Nat) ≤ 16 := Nat.div_le_self _ _
  omega
/-- Where the one that lacks most stands. -/
def bJ (M : List Int) (L : Int → Int) (f : Int → Bool) : Nat → Int
  | 0 => -1
  | i + 1 => if 0 < L (M.getD i 0) ∧ f (M.getD i 0) = true ∧ (bJ M L f i < 0 ∨ L (M.getD (bJ M L f i).toNat 0) < L (M.getD i 0)) then (i : Int) else bJ M L f i
theorem bJ_range (M : List Int) (L : Int → Int) (f : Int → Bool) : ∀ i, -1 ≤ bJ M L f i ∧ bJ M L f i < i
  | 0 => by simp [bJ]
  | i + 1 => by
    have := bJ_range M L f i
    unfold bJ
    split <;> omega
theorem bestI_snoc {L : Int → Int} {f : Int → Bool} {n : Int} : ∀ {M : List Int} {b : Option Int}, bestI L f b (M ++ [n]) = if 0 < L n ∧ f n = true ∧ (∀ x, bestI L f b M = some x → L x < L n) then some n else bestI L f b M
  | [], b => rfl
  | a :: M, b => by
    show bestI L f _ (M ++ [n]) = _
    rw [bestI_snoc]
    rfl
theorem bJ_best (M : List Int) (L : Int → Int) (f : Int → Bool) : ∀ i, i ≤ M.length → bestI L f none (M.take i) = if bJ M L f i < 0 then none else M[(bJ M L f i).toNat]?
  | 0, _ => by simp [bJ, bestI]
  | i + 1, hi => by
    have ih := bJ_best M L f i (by omega)
    have hr := bJ_range M L f i
    have hm : M[i]? = some (M.getD i 0) := by rw [List.getD_eq_getElem?_getD, List.getElem?_eq_getElem (by omega)]; rfl
    rw [List.take_add_one, hm, Option.toList_some, bestI_snoc, ih]
    have hcond : (0 < L (M.getD i 0) ∧ f (M.getD i 0) = true ∧ (∀ x, (if bJ M L f i < 0 then none else M[(bJ M L f i).toNat]?) = some x → L x < L (M.getD i 0))) ↔ (0 < L (M.getD i 0) ∧ f (M.getD i 0) = true ∧ (bJ M L f i < 0 ∨ L (M.getD (bJ M L f i).toNat 0) < L (M.getD i 0))) := by
      by_cases hb : bJ M L f i < 0
      · simp [hb]
      · have hx : M[(bJ M L f i).toNat]? = some (M.getD (bJ M L f i).toNat 0) := by rw [List.getD_eq_getElem?_getD, List.getElem?_eq_getElem (by omega)]; rfl
        rw [if_neg hb, hx]
        simp [hb]
    rw [show bJ M L f (i + 1) = if 0 < L (M.getD i 0) ∧ f (M.getD i 0) = true ∧ (bJ M L f i < 0 ∨ L (M.getD (bJ M L f i).toNat 0) < L (M.getD i 0)) then (i : Int) else bJ M L f i from rfl]
    by_cases hc : 0 < L (M.getD i 0) ∧ f (M.getD i 0) = true ∧ (bJ M L f i < 0 ∨ L (M.getD (bJ M L f i).toNat 0) < L (M.getD i 0))
    · rw [if_pos (hcond.2 hc), if_pos hc, if_neg (by omega), Int.toNat_natCast, hm]
    · rw [if_neg (fun h => hc (hcond.1 h)), if_neg hc]
theorem bJ_hit {M : List Int} {L : Int → Int} {f : Int → Bool} {i : Nat} {m : Int} (h : M[i]? = some m) (h1 : 0 < L m) (h2 : f m = true) (h3 : bJ M L f i < 0 ∨ ∃ j x, bJ M L f i = ((j : Nat) : Int) ∧ M[j]? = some x ∧ L x < L m) : bJ M L f (i + 1) = i := by
  have e : M.getD i 0 = m := by rw [List.getD_eq_getElem?_getD, h]; rfl
  rw [bJ, e, if_pos]
  refine ⟨h1, h2, ?_⟩
  rcases h3 with h3 | ⟨j, x, hj, hx, hl⟩
  · exact .inl h3
  · right
    rw [hj, Int.toNat_natCast, List.getD_eq_getElem?_getD, hx]
    exact hl
theorem bJ_miss {M : List Int} {L : Int → Int} {f : Int → Bool} {i : Nat} {m : Int} (h : M[i]? = some m) (h3 : ¬ 0 < L m ∨ f m = false ∨ ∃ j x, bJ M L f i = ((j : Nat) : Int) ∧ M[j]? = some x ∧ ¬ L x < L m) : bJ M L f (i + 1) = bJ M L f i := by
  have e : M.getD i 0 = m := by rw [List.getD_eq_getElem?_getD, h]; rfl
  rw [bJ, e, if_neg]
  rintro ⟨h1, h2, h4⟩
  rcases h3 with h3 | h3 | ⟨j, x, hj, hx, hl⟩
  · exact h3 h1
  · rw [h3] at h2; simp at h2
  · rcases h4 with h4 | h4
    · omega
    · rw [hj, Int.toNat_natCast, List.getD_eq_getElem?_getD, hx] at h4
      exact hl h4
/-- What both rounds find. -/
theorem pick_one {M : List Int} {L : Int → Int} {a b : Int} {j : Nat} (h : bJ M L (fun n => n != a && n != b) M.length = (j : Int)) : ∃ n, M[j]? = some n ∧ pickI M L a b = some n := by
  have e := bJ_best M L (fun n => n != a && n != b) M.length (Nat.le_refl _)
  have hr := bJ_range M L (fun n => n != a && n != b) M.length
  rw [List.take_length, h, if_neg (by omega), Int.toNat_natCast] at e
  have hj : j < M.length := by omega
  refine ⟨M[j], List.getElem?_eq_getElem hj, ?_⟩
  unfold pickI
  rw [e, List.getElem?_eq_getElem hj]
theorem pick_two {M : List Int} {L : Int → Int} {a b : Int} (hp : ∃ n ∈ M, 0 < L n) (h0 : bJ M L (fun n => n != a && n != b) M.length < 0) : ∃ (j : Nat) (n : Int), bJ M L (fun _ => true) M.length = (j : Int) ∧ M[j]? = some n ∧ pickI M L a b = some n := by
  have e0 := bJ_best M L (fun n => n != a && n != b) M.length (Nat.le_refl _)
  rw [List.take_length, if_pos h0] at e0
  have e := bJ_best M L (fun _ => true) M.length (Nat.le_refl _)
  rw [List.take_length] at e
  have hr := bJ_range M L (fun _ => true) M.length
  obtain ⟨n, hn, hl⟩ := hp
  obtain ⟨x, hx⟩ := bestI_has (L := L) (f := fun _ => true) (M := M) (b := none) (.inr ⟨n, hn, hl, rfl⟩)
  rw [hx] at e
  by_cases hb : bJ M L (fun _ => true) M.length < 0
  · rw [if_pos hb] at e; simp at e
  · rw [if_neg hb] at e
    refine ⟨(bJ M L (fun _ => true) M.length).toNat, x, by omega, e.symm, ?_⟩
    unfold pickI
    rw [e0]
    exact hx
def gB (now M : List Int) (k : Nat) : List Int × (Int → Int) := giveK M (keepK now M (quotaOf now M) 16) k
theorem gB_kept {now M : List Int} {k : Nat} (h : atL (gB now M k).1 k ≠ -1) : gB now M (k + 1) = gB now M k := by
  unfold gB at h ⊢
  rw [giveK, if_neg h]
theorem gB_given {now M : List Int} {k : Nat} {n : Int} (h : atL (gB now M k).1 k = -1) (hp : pickI M (gB now M k).2 (atL (gB now M k).1 ((k + 15) % 16)) (atL (gB now M k).1 ((k + 1) % 16)) = some n) : gB now M (k + 1) = ((gB now M k).1.set k n, updI (gB now M k).2 n ((gB now M k).2 n - 1)) := by
  unfold gB at h hp ⊢
  rw [giveK, if_pos h, hp]
theorem gB_gives {now M : List Int} (h : MemOk M) (hM : M ≠ []) {k : Nat} (hk : k ≤ 16) : GivesL M (quotaOf now M) (keepK now M (quotaOf now M) 16).1 (keepK now M (quotaOf now M) 16).2 k (gB now M k).1 (gB now M k).2 := gives h.nodup h.ne (gives0 (now := now) h hM) k hk
theorem gB_end {now M : List Int} (hM : M ≠ []) : (gB now M 16).1 = assignOf now M := by
  unfold gB assignOf
  rw [if_neg hM]
end
end Go.Proofs.YthibiejneggmoaaDoor
