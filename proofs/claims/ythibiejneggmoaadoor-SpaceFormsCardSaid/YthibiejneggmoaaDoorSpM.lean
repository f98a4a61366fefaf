/- Targets round the circle: whose a part is, how many steps to the next one, counts, texts; without any program. -/
import Derived.Test.YthibiejneggmoaaDoorClmMath
import Derived.Test.YthibiejneggmoaaDoorRgM
namespace Go.Proofs.YthibiejneggmoaaDoor

/-- Whose part p is, or -1. -/
def whoL (T : List Int) (p : Nat) : Int := if nodeE (atL T p) = true then atL T p else -1
theorem nodeE_iff {n : Int} : nodeE n = true ↔ 0 ≤ n ∧ n < 8 := by unfold nodeE; exact decide_eq_true_iff
theorem whoL_range (T : List Int) (p : Nat) : -1 ≤ whoL T p ∧ whoL T p < 8 := by
  unfold whoL
  split
  · rename_i h
    have := nodeE_iff.1 h
    omega
  · omega
theorem whoL_node {T : List Int} {p : Nat} (h : nodeE (atL T p) = true) : whoL T p = atL T p := if_pos h
theorem whoL_none {T : List Int} {p : Nat} (h : nodeE (atL T p) = false) : whoL T p = -1 := if_neg (by rw [h]; simp)
theorem whoL_pos {T : List Int} {p : Nat} (h : 0 ≤ whoL T p) : nodeE (atL T p) = true := by
  cases h1 : nodeE (atL T p)
  · rw [whoL_none h1] at h; omega
  · rfl
theorem whoL_out {T : List Int} {p : Nat} (h : T.length ≤ p) : whoL T p = -1 := by
  refine whoL_none ?_
  unfold atL
  rw [List.getD_eq_getElem?_getD, List.getElem?_eq_none h]
  rfl
/- Steps. -/
def nextF (f : Nat → Bool) (p : Nat) : Nat → Nat → Nat
  | 0, k => k
  | n + 1, k => if f ((p + k) % 16) = true then k else nextF f p n (k + 1)
theorem nextF_spec (f : Nat → Bool) (p : Nat) : ∀ n k, k ≤ nextF f p n k ∧ nextF f p n k ≤ k + n ∧ (∀ j, k ≤ j → j < nextF f p n k → f ((p + j) % 16) = false) ∧ (nextF f p n k < k + n → f ((p + nextF f p n k) % 16) = true)
  | 0, k => ⟨Nat.le_refl _, Nat.le_refl _, fun j h1 h2 => by unfold nextF at h2; omega, fun h => by unfold nextF at h; omega⟩
  | n + 1, k => by
    unfold nextF
    by_cases h : f ((p + k) % 16) = true
    · rw [if_pos h]
      exact ⟨Nat.le_refl _, by omega, fun j h1 h2 => by omega, fun _ => h⟩
    · rw [if_neg h]
      obtain ⟨h1, h2, h3, h4⟩ := nextF_spec f p n (k + 1)
      refine ⟨by omega, by omega, fun j q1 q2 => ?_, fun q => h4 (by omega)⟩
      rcases Nat.lt_or_eq_of_le q1 with q3 | rfl
      · exact h3 j q3 q2
      · cases hf : f ((p + k) % 16)
        · rfl
        · exact absurd hf h
def nextN (f : Nat → Bool) (p : Nat) : Nat := nextF f p 15 1
theorem nextN_spec (f : Nat → Bool) (p : Nat) : 1 ≤ nextN f p ∧ nextN f p ≤ 16 ∧ (∀ j, 1 ≤ j → j < nextN f p → f ((p + j) % 16) = false) ∧ (nextN f p < 16 → f ((p + nextN f p) % 16) = true) := nextF_spec f p 15 1
theorem nextN_is {f : Nat → Bool} {p k : Nat} (h1 : 1 ≤ k) (hk : k ≤ 16) (hno : ∀ j, 1 ≤ j → j < k → f ((p + j) % 16) = false) (hyes : k = 16 ∨ f ((p + k) % 16) = true) : nextN f p = k := by
  obtain ⟨q1, q2, q3, q4⟩ := nextN_spec f p
  rcases Nat.lt_trichotomy (nextN f p) k with h | h | h
  · have k1 := q4 (by omega)
    rw [hno _ q1 h] at k1
    cases k1
  · exact h
  · rcases hyes with rfl | hy
    · omega
    · rw [q3 k h1 h] at hy
      cases hy
/-- Steps from p to the next part of whose p is. -/
def nextO (O : Nat → Int) (p : Nat) : Nat := nextN (fun q => O q == O p) p
theorem nextO_range (O : Nat → Int) (p : Nat) : 1 ≤ nextO O p ∧ nextO O p ≤ 16 := ⟨(nextN_spec _ p).1, (nextN_spec _ p).2.1⟩
def nextI (T : List Int) (part : Int) : Int := if 0 ≤ part ∧ part < 16 ∧ 0 ≤ whoL T part.toNat then (nextO (whoL T) part.toNat : Int) else 0
theorem nextI_at {T : List Int} {p : Nat} (hp : p < 16) (h : 0 ≤ whoL T p) : nextI T (p : Int) = (nextO (whoL T) p : Int) := if_pos ⟨by omega, by omega, by rw [Int.toNat_natCast]; exact h⟩
theorem nextI_no {T : List Int} {p : Nat} (h : ¬ 0 ≤ whoL T p) : nextI T (p : Int) = 0 := if_neg fun h1 => h (by have := h1.2.2; rwa [Int.toNat_natCast] at this)
def leastK (O : Nat → Int) (n : Int) : Nat → Nat
  | 0 => 0
  | k + 1 => if O k = n then (if leastK O n k = 0 ∨ nextO O k < leastK O n k then nextO O k else leastK O n k) else leastK O n k
def leastI (T : List Int) (n : Int) : Int := if nodeE n = true then (leastK (whoL T) n 16 : Int) else 0
theorem leastK_spec (O : Nat → Int) (n : Int) : ∀ k, (leastK O n k = 0 ∧ ∀ p, p < k → O p ≠ n) ∨ (∃ p, p < k ∧ O p = n ∧ leastK O n k = nextO O p ∧ ∀ q, q < k → O q = n → leastK O n k ≤ nextO O q)
  | 0 => .inl ⟨rfl, fun p h => by omega⟩
  | k + 1 => by
    unfold leastK
    have hr := nextO_range O k
    by_cases h : O k = n
    · rw [if_pos h]
      rcases leastK_spec O n k with ⟨h0, hn⟩ | ⟨p, hp, ho, he, hle⟩
      · rw [if_pos (.inl h0)]
        refine .inr ⟨k, by omega, h, rfl, fun q hq hoq => ?_⟩
        rcases Nat.lt_or_eq_of_le (Nat.le_of_lt_succ hq) with h1 | rfl
        · exact absurd hoq (hn q h1)
        · exact Nat.le_refl _
      · have hpr := nextO_range O p
        by_cases h1 : leastK O n k = 0 ∨ nextO O k < leastK O n k
        · rw [if_pos h1]
          refine .inr ⟨k, by omega, h, rfl, fun q hq hoq => ?_⟩
          rcases Nat.lt_or_eq_of_le (Nat.le_of_lt_succ hq) with h2 | rfl
          · have := hle q h2 hoq
            omega
          · exact Nat.le_refl _
        · rw [if_neg h1]
          refine .inr ⟨p, by omega, ho, he, fun q hq hoq => ?_⟩
          rcases Nat.lt_or_eq_of_le (Nat.le_of_lt_succ hq) with h2 | rfl
          · exact hle q h2 hoq
          · omega
    · rw [if_neg h]
      rcases leastK_spec O n k with ⟨h0, hn⟩ | ⟨p, hp, ho, he, hle⟩
      · refine .inl ⟨h0, fun q hq => ?_⟩
        rcases Nat.lt_or_eq_of_le (Nat.le_of_lt_succ hq) with h2 | rfl
        · exact hn q h2
        · exact h
      · refine .inr ⟨p, by omega, ho, he, fun q hq hoq => ?_⟩
        rcases Nat.lt_or_eq_of_le (Nat.le_of_lt_succ hq) with h2 | rfl
        · exact hle q h2 hoq
        · exact absurd hoq h
/- Counts. -/
def ctK (O : Nat → Int) (n : Int) (k : Nat) : Nat := (List.range k).countP fun p => O p == n
theorem ctK_succ (O : Nat → Int) (n : Int) (k : Nat) : ctK O n (k + 1) = ctK O n k + (if O k = n then 1 else 0) := by
  unfold ctK
  rw [List.range_succ, List.countP_append, List.countP_singleton]
  by_cases h : O k = n <;> simp [h]
theorem ctK_le (O : Nat → Int) (n : Int) (k : Nat) : ctK O n k ≤ k := by
  unfold ctK
  refine Nat.le_trans List.countP_le_length ?_
  rw [List.length_range]
  exact Nat.le_refl _
def cntL (T : List Int) : List Int := (List.range 8).map fun n : Nat => (ctK (whoL T) (n : Int) 16 : Int)
theorem cntL_len (T : List Int) : (cntL T).length = 8 := by simp [cntL]
theorem cntL_at {T : List Int} {n : Nat} (h : n < 8) : (cntL T)[n]? = some (ctK (whoL T) (n : Int) 16 : Int) := by
  unfold cntL
  rw [List.getElem?_map, List.getElem?_range h]
  rfl
/- Unevenness. -/
def unevA (c : Int → Int) (n : Int) : Option (Int × Int) → Option (Int × Int)
  | none => some (c n, c n)
  | some q => some (max q.1 (c n), min q.2 (c n))
def unevS (c : Int → Int) (st : Option (Int × Int)) (n : Int) : Option (Int × Int) := if nodeE n = true then unevA c n st else st
def unevK (c : Int → Int) (M : List Int) : Option (Int × Int) := M.foldl (unevS c) none
def unevV : Option (Int × Int) → Int
  | none => 0
  | some q => q.1 - q.2
def cntI (T : List Int) (n : Int) : Int := (ctK (whoL T) n 16 : Int)
def unevI (T M : List Int) : Int := unevV (unevK (cntI T) M)
theorem unevK_step {c : Int → Int} {M : List Int} {k : Nat} {x : Int} (h : M[k]? = some x) : unevK c (M.take (k + 1)) = unevS c (unevK c (M.take k)) x := by
  unfold unevK
  rw [List.take_add_one, h, List.foldl_append]
  rfl
theorem unevK_range {c : Int → Int} {lo hi : Int} : ∀ {M : List Int} {st : Option (Int × Int)}, (∀ n ∈ M, nodeE n = true → lo ≤ c n ∧ c n ≤ hi) → (∀ a b, st = some (a, b) → lo ≤ b ∧ b ≤ a ∧ a ≤ hi) → ∀ a b, M.foldl (unevS c) st = some (a, b) → lo ≤ b ∧ b ≤ a ∧ a ≤ hi
  | [], st, _, h2, a, b, h => h2 a b h
  | n :: M, st, h1, h2, a, b, h => by
    refine unevK_range (M := M) (st := unevS c st n) (fun m hm => h1 m (by simp [hm])) ?_ a b h
    intro a b h3
    by_cases hn : nodeE n = true
    · have hc := h1 n (by simp) hn
      cases st with
      | none =>
        have h4 : some (c n, c n) = some (a, b) := by rw [← h3]; unfold unevS; rw [if_pos hn]; rfl
        simp only [Option.some.injEq, Prod.mk.injEq] at h4
        omega
      | some q =>
        obtain ⟨u, v⟩ := q
        have := h2 u v rfl
        have h4 : some (max u (c n), min v (c n)) = some (a, b) := by rw [← h3]; unfold unevS; rw [if_pos hn]; rfl
        simp only [Option.some.injEq, Prod.mk.injEq] at h4
        omega
    · have h4 : st = some (a, b) := by rw [← h3]; unfold unevS; rw [if_neg hn]
      exact h2 a b h4
theorem unevI_one {T M : List Int} {lo : Int} (h : ∀ n ∈ M, nodeE n = true → lo ≤ cntI T n ∧ cntI T n ≤ lo + 1) : 0 ≤ unevI T M ∧ unevI T M ≤ 1 := by
  unfold unevI
  cases hk : unevK (cntI T) M with
  | none => exact ⟨Int.le_refl _, by decide⟩
  | some q =>
    obtain ⟨a, b⟩ := q
    have := unevK_range (st := none) h (fun a b h => by cases h) a b hk
    show 0 ≤ a - b ∧ a - b ≤ 1
    omega
/- Texts. -/
def chO (x : Int) : Int := if x < 0 then 45 else 48 + x
theorem chO_inj {x y : Int} (hx : -1 ≤ x) (hy : -1 ≤ y) : chO x = chO y ↔ x = y := by
  unfold chO
  constructor
  · intro h
    split at h <;> split at h <;> omega
  · rintro rfl
    rfl
theorem chO_dash {x : Int} (hx : -1 ≤ x) : chO x = 45 ↔ x < 0 := by
  unfold chO
  split <;> omega
theorem chO_range {x : Int} (hx : -1 ≤ x ∧ x < 8) : 45 ≤ chO x ∧ chO x ≤ 55 := by
  unfold chO
  split <;> omega
def textK (O : Nat → Int) (k : Nat) : List Int := (List.range k).map fun p => chO (O p)
theorem textK_succ (O : Nat → Int) (k : Nat) : textK O (k + 1) = textK O k ++ [chO (O k)] := by
  unfold textK
  rw [List.range_succ, List.map_append]
  rfl
theorem textK_len (O : Nat → Int) (k : Nat) : (textK O k).length = k := by simp [textK]
theorem textK_at {O : Nat → Int} {k p : Nat} (h : p < k) : (textK O k)[p]? = some (chO (O p)) := by
  unfold textK
  rw [List.getElem?_map, List.getElem?_range h]
  rfl
/- Round the circle. -/
theorem rot_perm : ∀ a, a < 16 → ((List.range 16).map fun j => (a + j) % 16).Perm (List.range 16) := by decide
theorem countP_rot (f : Nat → Bool) {a : Nat} (ha : a < 16) : ((List.range 16).countP fun j => f ((a + j) % 16)) = (List.range 16).countP f := by
  have h := (rot_perm a ha).countP_eq f
  rw [List.countP_map] at h
  exact h
/-- Where a walk round the circle is that began at a: s steps on, so many parts seen, the least step so far. -/
structure RoundS (f : Nat → Bool) (a s seen least : Nat) : Prop where
  le : s ≤ 16
  at_ : f ((a + s) % 16) = true
  seen : seen = (List.range s).countP fun j => f ((a + 1 + j) % 16)
  low : least ≤ 16 ∧ ∀ j, j < s → f ((a + j) % 16) = true → least ≤ nextN f ((a + j) % 16)
  some : (s = 0 ∧ least = 16) ∨ ∃ j, j < s ∧ f ((a + j) % 16) = true ∧ (least = nextN f ((a + j) % 16))
theorem round_zero {f : Nat → Bool} {a : Nat} (ha : a < 16) (h : f a = true) : RoundS f a 0 0 16 :=
  ⟨by omega, by rw [Nat.add_zero, Nat.mod_eq_of_lt ha]; exact h, rfl, ⟨Nat.le_refl _, fun j hj => by omega⟩, .inl ⟨rfl, rfl⟩⟩
theorem round_step {f : Nat → Bool} {a s seen least : Nat} (ha : a < 16) (h : f a = true) (hr : RoundS f a s seen least) (hs : s < 16) :
    s + nextN f ((a + s) % 16) ≤ 16 ∧ RoundS f a (s + nextN f ((a + s) % 16)) (seen + 1) (min least (nextN f ((a + s) % 16))) := by
  obtain ⟨k1, k2, k3, k4⟩ := nextN_spec f ((a + s) % 16)
  have e : ∀ j, ((a + s) % 16 + j) % 16 = (a + (s + j)) % 16 := fun j => by omega
  have hle : s + nextN f ((a + s) % 16) ≤ 16 := by
    rcases Nat.lt_or_ge 16 (s + nextN f ((a + s) % 16)) with q | q
    · have q1 := k3 (16 - s) (by omega) (by omega)
      rw [e, show (a + (s + (16 - s))) % 16 = a by omega, h] at q1
      cases q1
    · exact q
  have hat : f ((a + (s + nextN f ((a + s) % 16))) % 16) = true := by
    rcases Nat.lt_or_ge (nextN f ((a + s) % 16)) 16 with q | q
    · have := k4 q
      rwa [e] at this
    · rw [show (a + (s + nextN f ((a + s) % 16))) % 16 = a by omega]
      exact h
  refine ⟨hle, hle, hat, ?_, ⟨?_, fun j hj hf => ?_⟩, .inr ?_⟩
  · obtain ⟨m, hm⟩ : ∃ m, nextN f ((a + s) % 16) = m + 1 := ⟨nextN f ((a + s) % 16) - 1, by omega⟩
    rw [hm] at k3 hat ⊢
    have hc : ∀ i, i ≤ m → ((List.range (s + i)).countP fun j => f ((a + 1 + j) % 16)) = seen := by
      intro i
      induction i with
      | zero => intro _; rw [Nat.add_zero]; exact hr.seen.symm
      | succ i ih =>
        intro hi
        have q := k3 (i + 1) (by omega) (by omega)
        rw [e] at q
        rw [← Nat.add_assoc, List.range_succ, List.countP_append, ih (by omega), List.countP_singleton, show a + 1 + (s + i) = a + (s + (i + 1)) by omega, q]
        simp
    rw [← Nat.add_assoc, List.range_succ, List.countP_append, hc m (Nat.le_refl _), List.countP_singleton, show a + 1 + (s + m) = a + (s + (m + 1)) by omega, hat]
    simp
  · have := hr.low.1
    omega
  · by_cases q : j < s
    · have := hr.low.2 j q hf
      omega
    · by_cases q1 : j = s
      · subst q1
        omega
      · have := k3 (j - s) (by omega) (by omega)
        rw [e, show s + (j - s) = j by omega, hf] at this
        cases this
  · by_cases q : nextN f ((a + s) % 16) ≤ least
    · exact ⟨s, by omega, hr.at_, by omega⟩
    · rcases hr.some with ⟨_, q1⟩ | ⟨j, q1, q2, q3⟩
      · omega
      · exact ⟨j, by omega, q2, by omega⟩
/-- All the way round: all parts were seen. -/
theorem round_end {O : Nat → Int} {a : Nat} (ha : a < 16) {seen least : Nat} (h : RoundS (fun q => O q == O a) a 16 seen least) : seen = ctK O (O a) 16 ∧ least = leastK O (O a) 16 := by
  refine ⟨?_, ?_⟩
  · rw [h.seen]
    by_cases h1 : a = 15
    · subst h1
      have : ∀ j ∈ List.range 16, ((O ((15 + 1 + j) % 16) == O 15) = true ↔ (O j == O 15) = true) := fun j hj => by
        have := List.mem_range.1 hj
        rw [show (15 + 1 + j) % 16 = j by omega]
      exact List.countP_congr this
    · exact countP_rot (fun q => O q == O a) (a := a + 1) (by omega)
  · have hn : ∀ j, (O ((a + j) % 16) == O a) = true → nextN (fun q => O q == O a) ((a + j) % 16) = nextO O ((a + j) % 16) := fun j hj => by
      unfold nextO
      rw [beq_iff_eq.1 hj]
    rcases leastK_spec O (O a) 16 with ⟨_, hno⟩ | ⟨p, hp, ho, he, hle⟩
    · exact absurd rfl (hno a ha)
    · rcases h.some with ⟨q, _⟩ | ⟨j, q1, q2, q3⟩
      · omega
      · rw [hn j q2] at q3
        have h1 := hle ((a + j) % 16) (by omega) (beq_iff_eq.1 q2)
        have q4 : (O ((a + (p + 16 - a) % 16) % 16) == O a) = true := by
          rw [show (a + (p + 16 - a) % 16) % 16 = p by omega]
          exact beq_iff_eq.2 ho
        have h2 := h.low.2 ((p + 16 - a) % 16) (by omega) q4
        rw [hn _ q4, show (a + (p + 16 - a) % 16) % 16 = p by omega] at h2
        omega
/- Turned round. -/
def turnO (O : Nat → Int) (k : Nat) : Nat → Int := fun p => O ((p + k) % 16)
theorem nextO_turn (O : Nat → Int) {k p : Nat} (_hp : p < 16) : nextO (turnO O k) p = nextO O ((p + k) % 16) := by
  obtain ⟨k1, k2, k3, k4⟩ := nextN_spec (fun q => O q == O ((p + k) % 16)) ((p + k) % 16)
  have e : ∀ j, ((p + j) % 16 + k) % 16 = ((p + k) % 16 + j) % 16 := fun j => by omega
  refine nextN_is k1 k2 (fun j h1 h2 => ?_) ?_
  · show (O (((p + j) % 16 + k) % 16) == O ((p + k) % 16)) = false
    rw [e]
    exact k3 j h1 h2
  · rcases Nat.lt_or_eq_of_le k2 with h | h
    · right
      show (O (((p + _) % 16 + k) % 16) == O ((p + k) % 16)) = true
      rw [e]
      exact k4 h
    · exact .inl h
theorem leastK_turn (O : Nat → Int) {k : Nat} (hk : k < 16) (n : Int) : leastK (turnO O k) n 16 = leastK O n 16 := by
  rcases leastK_spec O n 16 with ⟨h0, hno⟩ | ⟨p, hp, ho, he, hle⟩
  · rcases leastK_spec (turnO O k) n 16 with ⟨h1, _⟩ | ⟨q, hq, hoq, _, _⟩
    · rw [h0, h1]
    · exact absurd hoq (hno _ (by omega))
  · have ep : ((p + 16 - k) % 16 + k) % 16 = p := by omega
    rcases leastK_spec (turnO O k) n 16 with ⟨_, hno⟩ | ⟨q, hq, hoq, heq, hleq⟩
    · refine absurd ?_ (hno ((p + 16 - k) % 16) (by omega))
      show O (((p + 16 - k) % 16 + k) % 16) = n
      rw [ep]
      exact ho
    · have h1 := hle ((q + k) % 16) (by omega) hoq
      rw [nextO_turn O hq] at heq
      have h2 := hleq ((p + 16 - k) % 16) (by omega) (by show O (((p + 16 - k) % 16 + k) % 16) = n; rw [ep]; exact ho)
      rw [nextO_turn O (by omega), ep] at h2
      omega
theorem ctK_turn (O : Nat → Int) {k : Nat} (hk : k < 16) (n : Int) : ctK (turnO O k) n 16 = ctK O n 16 := by
  have h := countP_rot (fun q => O q == n) hk
  unfold ctK turnO
  rw [← h]
  refine List.countP_congr fun j _ => ?_
  rw [Nat.add_comm]
def turnL (T : List Int) (k : Nat) : List Int := T.drop k ++ T.take k
theorem turnL_len {T : List Int} {k : Nat} (hk : k ≤ T.length) : (turnL T k).length = T.length := by
  unfold turnL
  rw [List.length_append, List.length_drop, List.length_take]
  omega
theorem atL_turn {T : List Int} {k p : Nat} (hT : T.length = 16) (hk : k < 16) (hp : p < 16) : atL (turnL T k) p = atL T ((p + k) % 16) := by
  unfold atL turnL
  rw [List.getD_eq_getElem?_getD, List.getD_eq_getElem?_getD]
  congr 1
  rw [List.getElem?_append, List.length_drop, hT]
  split
  · rw [List.getElem?_drop, show (p + k) % 16 = k + p by omega]
  · rw [List.getElem?_take, if_pos (by omega), show (p + k) % 16 = p - (16 - k) by omega]
theorem whoL_turn {T : List Int} {k p : Nat} (hT : T.length = 16) (hk : k < 16) (hp : p < 16) : whoL (turnL T k) p = turnO (whoL T) k p := by
  unfold turnO whoL
  rw [atL_turn hT hk hp]
theorem nextO_congr {O P : Nat → Int} (h : ∀ p, p < 16 → O p = P p) {p : Nat} (hp : p < 16) : nextO O p = nextO P p := by
  unfold nextO
  obtain ⟨k1, k2, k3, k4⟩ := nextN_spec (fun q => P q == P p) p
  refine nextN_is k1 k2 (fun j h1 h2 => ?_) ?_
  · show (O _ == O _) = false
    rw [h _ (by omega), h p hp]
    exact k3 j h1 h2
  · rcases Nat.lt_or_eq_of_le k2 with q | q
    · right
      show (O _ == O _) = true
      rw [h _ (by omega), h p hp]
      exact k4 q
    · exact .inl q
theorem leastK_congr {O P : Nat → Int} (h : ∀ p, p < 16 → O p = P p) (n : Int) : ∀ k, k ≤ 16 → leastK O n k = leastK P n k
  | 0, _ => rfl
  | k + 1, hk => by
    unfold leastK
    rw [leastK_congr h n k (by omega), h k (by omega), nextO_congr h (show k < 16 by omega)]
theorem ctK_congr {O P : Nat → Int} (h : ∀ p, p < 16 → O p = P p) (n : Int) : ctK O n 16 = ctK P n 16 := by
  unfold ctK
  refine List.countP_congr fun j hj => ?_
  rw [h j (List.mem_range.1 hj)]
theorem leastI_turn {T : List Int} {k : Nat} (hT : T.length = 16) (hk : k < 16) (n : Int) : leastI (turnL T k) n = leastI T n := by
  unfold leastI
  rw [leastK_congr (fun p hp => whoL_turn hT hk hp) n 16 (Nat.le_refl _), leastK_turn _ hk]
theorem cntI_turn {T : List Int} {k : Nat} (hT : T.length = 16) (hk : k < 16) (n : Int) : cntI (turnL T k) n = cntI T n := by
  unfold cntI
  rw [ctK_congr (fun p hp => whoL_turn hT hk hp) n, ctK_turn _ hk]
theorem unevI_turn {T : List Int} {k : Nat} (hT : T.length = 16) (hk : k < 16) (M : List Int) : unevI (turnL T k) M = unevI T M := by
  unfold unevI
  rw [show cntI (turnL T k) = cntI T from funext fun n => cntI_turn hT hk n]
theorem nextI_turn {T : List Int} {k p : Nat} (hT : T.length = 16) (hk : k < 16) (hp : p < 16) : nextI (turnL T k) (p : Int) = nextI T (((p + k) % 16 : Nat) : Int) := by
  have e : whoL (turnL T k) p = whoL T ((p + k) % 16) := whoL_turn hT hk hp
  by_cases h : 0 ≤ whoL T ((p + k) % 16)
  · rw [nextI_at hp (by rw [e]; exact h), nextI_at (by omega) h, nextO_congr (fun p hp => whoL_turn hT hk hp) hp, nextO_turn _ hp]
  · rw [nextI_no (by rw [e]; exact h), nextI_no h]
theorem textK_turn {T : List Int} {k : Nat} (hT : T.length = 16) (hk : k < 16) : textK (whoL (turnL T k)) 16 = (textK (whoL T) 16).drop k ++ (textK (whoL T) 16).take k := by
  apply List.ext_getElem?
  intro p
  by_cases hp : p < 16
  · rw [textK_at hp, whoL_turn hT hk hp, List.getElem?_append, List.length_drop, textK_len]
    split
    · rw [List.getElem?_drop, textK_at (by omega)]
      unfold turnO
      rw [show (p + k) % 16 = k + p by omega]
    · rw [List.getElem?_take, if_pos (by omega), textK_at (by omega)]
      unfold turnO
      rw [show (p + k) % 16 = p - (16 - k) by omega]
  · rw [List.getElem?_eq_none (by rw [textK_len]; omega), List.getElem?_eq_none (by rw [List.length_append, List.length_drop, List.length_take, textK_len]; omega)]
end Go.Proofs.YthibiejneggmoaaDoor
