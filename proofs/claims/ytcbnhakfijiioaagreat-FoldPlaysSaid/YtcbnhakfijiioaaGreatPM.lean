/- PM: FdM, FdP. -/
import Derived.Test.YtcbnhakfijiioaaGreatVtQ
namespace Go.Proofs.YtcbnhakfijiioaaGreat
open Go
structure Fd where
 part : Int
 any : Bool
 last : ByteArray
 due : List ByteArray
def newF (part : Int) : Fd := ⟨part, false, ⟨#[]⟩, []⟩
def hasL (ks : List ByteArray) (k : ByteArray) : Bool := ks.any fun x => decide (x = k)
theorem hasL_iff {ks : List ByteArray} {k : ByteArray} : hasL ks k = true ↔ k ∈ ks := by
 unfold hasL
 rw [List.any_eq_true]
 constructor
 ·rintro ⟨x, hx, h⟩
  exact of_decide_eq_true h ▸ hx
 ·exact fun h => ⟨k, h, decide_eq_true rfl⟩
def popD (ks : List ByteArray) : List ByteArray → Option ByteArray × List ByteArray
 | [] => (none, [])
 | k :: l => if hasL ks k = true then (some k, l) else popD ks l
def newK (F : Fd) (k : ByteArray) : Bool := !F.any || decide (ltK F.last k)
def nextF (F : Fd) (ks : List ByteArray) : Fd × Option ByteArray :=
 match popD ks F.due with
 | (some k, l) => (⟨F.part, F.any, F.last, l⟩, some k)
 | (none, _) =>
  match ks.find? (newK F) with
  | some k => (⟨F.part, true, k, []⟩, some k)
  | none => (⟨F.part, F.any, F.last, []⟩, none)
def insK (k : ByteArray) : List ByteArray → List ByteArray
 | [] => [k]
 | x :: l => if k = x then x :: l else if ltK k x then k :: x :: l else x :: insK k l
def backB (F : Fd) (k : ByteArray) : Bool := decide (ofK k = F.part) && (F.any && !decide (ltK F.last k))
def backF (F : Fd) (k : ByteArray) : Fd := if backB F k = true then ⟨F.part, F.any, F.last, insK k F.due⟩ else F
def overF (F : Fd) (ks : List ByteArray) : Bool := (nextF F ks).2.isNone
theorem mem_insK {k x : ByteArray} : ∀ {l : List ByteArray}, x ∈ insK k l ↔ x = k ∨ x ∈ l
 | [] => by simp [insK]
 | y :: l => by
  unfold insK
  by_cases h : k = y
  ·rw [if_pos h, h]
   simp
  ·rw [if_neg h]
   by_cases h2 : ltK k y
   ·rw [if_pos h2]
    simp
   ·rw [if_neg h2]
    simp only [List.mem_cons, mem_insK (l := l)]
    constructor
    ·rintro (h | h | h)
     ·exact .inr (.inl h)
     ·exact .inl h
     ·exact .inr (.inr h)
    ·rintro (h | h | h)
     ·exact .inr (.inl h)
     ·exact .inl h
     ·exact .inr (.inr h)
theorem srt_insK {k : ByteArray} : ∀ {l : List ByteArray}, l.Pairwise ltK → (insK k l).Pairwise ltK
 | [], _ => by simp [insK]
 | y :: l, h => by
  obtain ⟨h1, h2⟩ := List.pairwise_cons.1 h
  unfold insK
  by_cases e : k = y
  ·rw [if_pos e]
   exact h
  ·rw [if_neg e]
   by_cases e2 : ltK k y
   ·rw [if_pos e2]
    refine List.pairwise_cons.2 ⟨fun z hz => ?_, h⟩
    rcases List.mem_cons.1 hz with rfl | hz
    ·exact e2
    ·exact ltK_trans e2 (h1 z hz)
   ·rw [if_neg e2]
    refine List.pairwise_cons.2 ⟨fun z hz => ?_, srt_insK h2⟩
    rcases mem_insK.1 hz with rfl | hz
    ·rcases ltK_tri z y with h3 | h3 | h3
     ·exact absurd h3 e2
     ·exact absurd h3 e
     ·exact h3
    ·exact h1 z hz
structure FdOk (F : Fd) : Prop where
 part : 0 ≤ F.part ∧ F.part < 16
 srt : F.due.Pairwise ltK
 due : ∀ k ∈ F.due, ofK k = F.part ∧ F.any = true ∧ ¬ ltK F.last k
theorem FdOk.new {n : Int} (h : 0 ≤ n ∧ n < 16) : FdOk (newF n) := ⟨h, List.Pairwise.nil, fun k hk => by cases hk⟩
theorem popD_sub (ks : List ByteArray) : ∀ l : List ByteArray, (popD ks l).2.Sublist l
 | [] => List.Sublist.refl _
 | k :: l => by
  unfold popD
  split
  ·exact List.sublist_cons_self _ _
  ·exact (popD_sub ks l).cons _
theorem popD_some {ks : List ByteArray} {k : ByteArray} {r : List ByteArray} : ∀ {l : List ByteArray}, popD ks l = (some k, r) → k ∈ ks ∧ k ∈ l ∧ ∃ a, l = a ++ k :: r ∧ ∀ x ∈ a, x ∉ ks
 | [], h => by cases h
 | y :: l, h => by
  unfold popD at h
  split at h
  ·rename_i hy
   have e1 : y = k := Option.some.inj (Prod.mk.inj h).1
   have e2 : l = r := (Prod.mk.inj h).2
   subst e1 e2
   exact ⟨hasL_iff.1 hy, List.mem_cons_self, [], rfl, fun _ h => by cases h⟩
  ·rename_i hy
   obtain ⟨h1, h2, a, h3, h4⟩ := popD_some h
   refine ⟨h1, List.mem_cons_of_mem _ h2, y :: a, by rw [h3]; rfl, fun x hx => ?_⟩
   rcases List.mem_cons.1 hx with rfl | hx
   ·exact fun hm => hy (hasL_iff.2 hm)
   ·exact h4 x hx
theorem popD_none {ks : List ByteArray} {r : List ByteArray} : ∀ {l : List ByteArray}, popD ks l = (none, r) → r = [] ∧ ∀ x ∈ l, x ∉ ks
 | [], h => ⟨(Prod.mk.inj h).2.symm, fun _ h => by cases h⟩
 | y :: l, h => by
  unfold popD at h
  split at h
  ·cases h
  ·rename_i hy
   obtain ⟨h1, h2⟩ := popD_none h
   refine ⟨h1, fun x hx => ?_⟩
   rcases List.mem_cons.1 hx with rfl | hx
   ·exact fun hm => hy (hasL_iff.2 hm)
   ·exact h2 x hx
theorem next_ways (F : Fd) (ks : List ByteArray) : (∃ k r, popD ks F.due = (some k, r) ∧ nextF F ks = (⟨F.part, F.any, F.last, r⟩, some k)) ∨ (∃ k, popD ks F.due = (none, []) ∧ ks.find? (newK F) = some k ∧ nextF F ks = (⟨F.part, true, k, []⟩, some k)) ∨ (popD ks F.due = (none, []) ∧ ks.find? (newK F) = none ∧ nextF F ks = (⟨F.part, F.any, F.last, []⟩, none)) := by
 unfold nextF
 obtain ⟨o, r, h⟩ : ∃ o r, popD ks F.due = (o, r) := ⟨_, _, rfl⟩
 rw [h]
 cases o with
 | some k => exact .inl ⟨k, r, rfl, rfl⟩
 | none =>
  obtain rfl := (popD_none h).1
  dsimp only
  cases hf : ks.find? (newK F) with
  | some k => exact .inr (.inl ⟨k, rfl, rfl, rfl⟩)
  | none => exact .inr (.inr ⟨rfl, rfl, rfl⟩)
theorem FdOk.next {F : Fd} (h : FdOk F) (ks : List ByteArray) : FdOk (nextF F ks).1 := by
 have hs := popD_sub ks F.due
 rcases next_ways F ks with ⟨k, r, h1, h2⟩ | ⟨k, h1, _, h2⟩ | ⟨h1, _, h2⟩
 ·rw [h1] at hs
  rw [h2]
  exact ⟨h.part, h.srt.sublist hs, fun x hx => h.due x (hs.subset hx)⟩
 ·rw [h2]
  exact ⟨h.part, List.Pairwise.nil, fun x hx => by cases hx⟩
 ·rw [h2]
  exact ⟨h.part, List.Pairwise.nil, fun x hx => by cases hx⟩
theorem FdOk.back {F : Fd} (h : FdOk F) (k : ByteArray) : FdOk (backF F k) := by
 unfold backF
 split
 ·rename_i hb
  unfold backB at hb
  simp only [Bool.and_eq_true, decide_eq_true_eq, Bool.not_eq_true', decide_eq_false_iff_not] at hb
  refine ⟨h.part, srt_insK h.srt, fun x hx => ?_⟩
  rcases mem_insK.1 hx with rfl | hx
  ·exact hb
  ·exact h.due x hx
 ·exact h
theorem next_part (F : Fd) (ks : List ByteArray) : (nextF F ks).1.part = F.part := by
 rcases next_ways F ks with ⟨k, r, _, h⟩ | ⟨k, _, _, h⟩ | ⟨_, _, h⟩ <;> rw [h]
theorem back_part (F : Fd) (k : ByteArray) : (backF F k).part = F.part := by
 unfold backF
 split <;> rfl
structure Told (F : Fd) (ks : List ByteArray) (i : Nat) : Prop where
 due : F.due = []
 at_ : (i = 0 ∧ F.any = false) ∨ (0 < i ∧ i ≤ ks.length ∧ F.any = true ∧ ks[i - 1]? = some F.last)
theorem srt_lt {ks : List ByteArray} (h : ks.Pairwise ltK) {i j : Nat} {a b : ByteArray} (ha : ks[i]? = some a) (hb : ks[j]? = some b) (hij : i < j) : ltK a b := by
 obtain ⟨h1, rfl⟩ := List.getElem?_eq_some_iff.1 ha
 obtain ⟨h2, rfl⟩ := List.getElem?_eq_some_iff.1 hb
 exact List.pairwise_iff_getElem.1 h i j h1 h2 hij
theorem srt_le {ks : List ByteArray} (h : ks.Pairwise ltK) {i j : Nat} {a b : ByteArray} (ha : ks[i]? = some a) (hb : ks[j]? = some b) (hij : i ≤ j) : ¬ ltK b a := by
 rcases Nat.lt_or_eq_of_le hij with h1 | rfl
 ·intro h2
  exact ltK_irrefl a (ltK_trans (srt_lt h ha hb h1) h2)
 ·rw [ha] at hb
  obtain rfl := Option.some.inj hb
  exact ltK_irrefl _
theorem Told.new_iff {F : Fd} {ks : List ByteArray} {i : Nat} (h : Told F ks i) (hs : ks.Pairwise ltK) {j : Nat} {k : ByteArray} (hk : ks[j]? = some k) : newK F k = decide (i ≤ j) := by
 unfold newK
 rcases h.at_ with ⟨rfl, h2⟩ | ⟨h0, h1, h2, h3⟩
 ·rw [h2, decide_eq_true (Nat.zero_le j)]
  rfl
 ·rw [h2, Bool.not_true, Bool.false_or]
  by_cases hij : i ≤ j
  ·rw [decide_eq_true hij, decide_eq_true (srt_lt hs h3 hk (by omega))]
  ·rw [decide_eq_false hij, decide_eq_false (srt_le hs hk h3 (by omega))]
theorem find_at {ks : List ByteArray} {p : ByteArray → Bool} {i : Nat} (h : ∀ j k, ks[j]? = some k → p k = decide (i ≤ j)) : ks.find? p = ks[i]? := by
 induction ks generalizing i with
 | nil => rfl
 | cons x l ih =>
  have hx := h 0 x rfl
  rw [List.find?_cons]
  cases i with
  | zero =>
   rw [hx]
   rfl
  | succ i =>
   rw [hx]
   show l.find? p = l[i]?
   exact ih fun j k hk => by
    rw [h (j + 1) k (by rw [List.getElem?_cons_succ]; exact hk)]
    exact decide_eq_decide.2 (by omega)
theorem Told.next {F : Fd} {ks : List ByteArray} {i : Nat} (h : Told F ks i) (hs : ks.Pairwise ltK) : (nextF F ks).2 = ks[i]? ∧ (i < ks.length → Told (nextF F ks).1 ks (i + 1)) ∧ (ks.length ≤ i → Told (nextF F ks).1 ks i) := by
 have hf := find_at fun j k hk => h.new_iff hs hk
 have hp : popD ks F.due = (none, []) := by rw [h.due]; rfl
 rcases next_ways F ks with ⟨k, r, h1, _⟩ | ⟨k, _, h1, h2⟩ | ⟨_, h1, h2⟩
 ·rw [hp] at h1
  cases h1
 ·rw [h2, ← hf, h1]
  refine ⟨rfl, fun hi => ⟨rfl, .inr ⟨by omega, hi, rfl, ?_⟩⟩, fun hi => ?_⟩
  ·show ks[i + 1 - 1]? = some k
   rw [Nat.add_sub_cancel, ← hf, h1]
  ·rw [hf, List.getElem?_eq_none hi] at h1
   cases h1
 ·rw [h2, ← hf, h1]
  refine ⟨rfl, fun hi => ?_, fun _ => ⟨rfl, h.at_⟩⟩
  rw [hf, List.getElem?_eq_getElem hi] at h1
  cases h1
end Go.Proofs.YtcbnhakfijiioaaGreat
namespace Go.Proofs.YtcbnhakfijiioaaGreat
open Go
def lowN : List ByteArray → ByteArray → Nat
 | [], _ => 0
 | p :: l, k => if ltK p k then lowN l k + 1 else 0
theorem lowN_le : ∀ (l : List ByteArray) (k : ByteArray), lowN l k ≤ l.length
 | [], _ => Nat.le_refl _
 | p :: l, k => by
  unfold lowN
  split
  ·exact Nat.succ_le_succ (lowN_le l k)
  ·exact Nat.zero_le _
theorem lowN_lt : ∀ {l : List ByteArray} {k : ByteArray} {i : Nat} {p : ByteArray}, i < lowN l k → l[i]? = some p → ltK p k
 | [], _, _, _, h, _ => absurd h (Nat.not_lt_zero _)
 | q :: l, k, i, p, h, hp => by
  unfold lowN at h
  split at h
  ·rename_i hq
   cases i with
   | zero =>
    obtain rfl := Option.some.inj hp
    exact hq
   | succ i => exact lowN_lt (Nat.lt_of_succ_lt_succ h) (by rw [List.getElem?_cons_succ] at hp; exact hp)
  ·exact absurd h (Nat.not_lt_zero _)
theorem lowN_not : ∀ {l : List ByteArray} {k : ByteArray} {p : ByteArray}, l[lowN l k]? = some p → ¬ ltK p k
 | [], _, _, h => by cases h
 | q :: l, k, p, h => by
  unfold lowN at h
  split at h
  ·rw [List.getElem?_cons_succ] at h
   exact lowN_not h
  ·rename_i hq
   obtain rfl := Option.some.inj h
   exact hq
theorem lowN_ge {l : List ByteArray} {k : ByteArray} (hs : l.Pairwise ltK) {i : Nat} {p : ByteArray} (hi : lowN l k ≤ i) (hp : l[i]? = some p) : ¬ ltK p k := by
 obtain ⟨hlt, _⟩ := List.getElem?_eq_some_iff.1 hp
 have hq : l[lowN l k]? = some l[lowN l k] := List.getElem?_eq_getElem (by omega)
 intro h
 have h1 := lowN_not hq
 rcases Nat.lt_or_eq_of_le hi with h2 | h2
 ·exact h1 (ltK_trans (srt_lt hs hq hp h2) h)
 ·subst h2
  exact lowN_not hp h
theorem lowN_iff {l : List ByteArray} {k : ByteArray} (hs : l.Pairwise ltK) {i : Nat} {p : ByteArray} (hp : l[i]? = some p) : ltK p k ↔ i < lowN l k :=
 ⟨fun h => (Nat.lt_or_ge i (lowN l k)).elim id fun h2 => absurd h (lowN_ge hs h2 hp), fun h => lowN_lt h hp⟩
theorem low_ways {l : List ByteArray} (k : ByteArray) (hs : l.Pairwise ltK) : (lowN l k = l.length ∧ hasL l k = false) ∨ (∃ p, lowN l k < l.length ∧ l[lowN l k]? = some p ∧ p = k ∧ hasL l k = true) ∨ (∃ p, lowN l k < l.length ∧ l[lowN l k]? = some p ∧ p ≠ k ∧ hasL l k = false) := by
 have hno : (∀ p, l[lowN l k]? = some p → p ≠ k) → hasL l k = false := fun h => by
  refine Bool.eq_false_iff.2 fun h2 => ?_
  obtain ⟨i, hi, hk⟩ := List.getElem_of_mem (hasL_iff.1 h2)
  have hp : l[i]? = some k := by rw [List.getElem?_eq_getElem hi, hk]
  have h3 : lowN l k ≤ i := (Nat.lt_or_ge i (lowN l k)).elim (fun h4 => absurd (lowN_lt h4 hp) (ltK_irrefl k)) id
  have hq : l[lowN l k]? = some l[lowN l k] := List.getElem?_eq_getElem (by omega)
  rcases Nat.lt_or_eq_of_le h3 with h4 | h4
  ·exact lowN_not hq (srt_lt hs hq hp h4)
  ·rw [← h4] at hp
   exact h _ hp rfl
 rcases Nat.lt_or_ge (lowN l k) l.length with h | h
 ·have hq : l[lowN l k]? = some l[lowN l k] := List.getElem?_eq_getElem h
  by_cases he : l[lowN l k] = k
  ·refine .inr (.inl ⟨_, h, hq, he, hasL_iff.2 ?_⟩)
   exact List.mem_of_getElem? (hq.trans (congrArg some he))
  ·refine .inr (.inr ⟨_, h, hq, he, hno fun p hp => ?_⟩)
   rw [hq] at hp
   obtain rfl := Option.some.inj hp
   exact he
 ·refine .inl ⟨Nat.le_antisymm (lowN_le l k) h, hno fun p hp => ?_⟩
  rw [List.getElem?_eq_none h] at hp
  cases hp
def pastN (l : List ByteArray) (k : ByteArray) : Nat := if hasL l k = true then lowN l k + 1 else lowN l k
theorem pastN_le {l : List ByteArray} {k : ByteArray} (hs : l.Pairwise ltK) : pastN l k ≤ l.length := by
 unfold pastN
 rcases low_ways k hs with ⟨h1, h2⟩ | ⟨p, h1, _, _, h2⟩ | ⟨p, h1, _, _, h2⟩ <;> rw [h2]
 ·exact Nat.le_of_eq h1
 ·exact h1
 ·exact Nat.le_of_lt h1
theorem past_iff {l : List ByteArray} {k : ByteArray} (hs : l.Pairwise ltK) {j : Nat} {p : ByteArray} (hp : l[j]? = some p) : decide (ltK k p) = decide (pastN l k ≤ j) := by
 have hlow := lowN_iff (k := k) hs hp
 have hlt := (List.getElem?_eq_some_iff.1 hp).1
 refine decide_eq_decide.2 ?_
 unfold pastN
 rcases low_ways k hs with ⟨h1, h2⟩ | ⟨q, h1, h3, h4, h2⟩ | ⟨q, h1, h3, h4, h2⟩ <;> rw [h2]
 ·rw [if_neg Bool.false_ne_true]
  exact ⟨fun h => absurd (ltK_trans h (hlow.2 (by omega))) (ltK_irrefl k), fun h => by omega⟩
 ·rw [if_pos rfl]
  subst h4
  constructor
  ·intro h
   rcases Nat.lt_or_ge (lowN l q) j with h5 | h5
   ·exact h5
   ·rcases Nat.lt_or_eq_of_le h5 with h6 | h6
    ·exact absurd (ltK_trans h (hlow.2 h6)) (ltK_irrefl q)
    ·rw [← h6, hp] at h3
     obtain rfl := Option.some.inj h3
     exact absurd h (ltK_irrefl p)
  ·exact fun h => srt_lt hs h3 hp h
 ·rw [if_neg Bool.false_ne_true]
  constructor
  ·exact fun h => (Nat.lt_or_ge j (lowN l k)).elim (fun h5 => absurd (ltK_trans h (hlow.2 h5)) (ltK_irrefl k)) id
  ·intro h
   rcases ltK_tri k p with h5 | h5 | h5
   ·exact h5
   ·subst h5
    rcases Nat.lt_or_eq_of_le h with h6 | h6
    ·exact absurd (srt_lt hs h3 hp h6) (lowN_not h3)
    ·rw [h6, hp] at h3
     exact absurd (Option.some.inj h3).symm h4
   ·exact absurd (hlow.1 h5) (Nat.not_lt.2 h)
theorem less_none : ∀ (a : ByteArray), ¬ ltK a ⟨#[]⟩ := fun a h => by
 unfold ltK at h
 have : ∀ l : List UInt8, Op.bytesLess l [] = false := fun l => by cases l <;> rfl
 rw [show (⟨#[]⟩ : ByteArray).toList = [] from by decide +kernel, this] at h
 cases h
theorem none_less {k : ByteArray} (h : 0 < k.size) : ltK ⟨#[]⟩ k := by
 rcases ltK_tri ⟨#[]⟩ k with h1 | h1 | h1
 ·exact h1
 ·subst h1
  exact absurd h (by decide)
 ·exact absurd h1 (less_none k)
theorem new_iff {F : Fd} (h0 : F.any = false → F.last = ⟨#[]⟩) {ks : List ByteArray} (hs : ks.Pairwise ltK) (hk : ∀ k ∈ ks, 0 < k.size) {j : Nat} {k : ByteArray} (hp : ks[j]? = some k) : newK F k = decide (pastN ks F.last ≤ j) := by
 unfold newK
 rw [← past_iff hs hp]
 cases ha : F.any with
 | true => rfl
 | false =>
  rw [h0 ha, decide_eq_true (none_less (hk k (List.mem_of_getElem? hp)))]
  rfl
theorem find_new {F : Fd} (h0 : F.any = false → F.last = ⟨#[]⟩) {ks : List ByteArray} (hs : ks.Pairwise ltK) (hk : ∀ k ∈ ks, 0 < k.size) : ks.find? (newK F) = ks[pastN ks F.last]? := find_at fun _ _ hp => new_iff h0 hs hk hp
theorem back_iff {F : Fd} (h0 : F.any = false → F.last = ⟨#[]⟩) {k : ByteArray} (hk : 0 < k.size) : backB F k = (decide (ofK k = F.part) && !decide (ltK F.last k)) := by
 unfold backB
 cases ha : F.any with
 | true => rw [Bool.true_and]
 | false => rw [h0 ha, decide_eq_true (none_less hk), Bool.false_and]; rfl
theorem insK_perm {k : ByteArray} : ∀ {l : List ByteArray}, k ∉ l → (l ++ [k]).Perm (insK k l)
 | [], _ => List.Perm.refl _
 | x :: l, h => by
  have h1 : k ≠ x := fun e => h (e ▸ List.mem_cons_self)
  have h2 : k ∉ l := fun e => h (List.mem_cons_of_mem _ e)
  unfold insK
  rw [if_neg h1]
  split
  ·exact List.perm_append_singleton k (x :: l)
  ·exact (insK_perm h2).cons x
theorem insK_in {k : ByteArray} : ∀ {l : List ByteArray}, l.Pairwise ltK → k ∈ l → insK k l = l
 | [], _, h => by cases h
 | x :: l, hs, h => by
  obtain ⟨h1, h2⟩ := List.pairwise_cons.1 hs
  unfold insK
  by_cases e : k = x
  ·rw [if_pos e]
  ·rw [if_neg e]
   rcases List.mem_cons.1 h with h3 | h3
   ·exact absurd h3 e
   ·rw [if_neg (fun h4 => ltK_irrefl x (ltK_trans (h1 k h3) h4)), insK_in h2 h3]
theorem insK_len (k : ByteArray) : ∀ l : List ByteArray, (insK k l).length ≤ l.length + 1
 | [] => Nat.le_refl _
 | x :: l => by
  unfold insK
  split
  ·exact Nat.le_succ _
  ·split
   ·exact Nat.le_refl _
   ·exact Nat.succ_le_succ (insK_len k l)
theorem hasL_perm {a b : List ByteArray} (h : a.Perm b) (k : ByteArray) : hasL a k = hasL b k := by
 cases hb : hasL b k with
 | true => exact hasL_iff.2 (h.symm.subset (hasL_iff.1 hb))
 | false => exact Bool.eq_false_iff.2 fun ha => by rw [hasL_iff.2 (h.subset (hasL_iff.1 ha))] at hb; cases hb
theorem over_ways {F : Fd} (h0 : F.any = false → F.last = ⟨#[]⟩) {ks : List ByteArray} (hs : ks.Pairwise ltK) (hk : ∀ k ∈ ks, 0 < k.size) {xs : List ByteArray} (hp : xs.Perm F.due) : overF F ks = (decide (pastN ks F.last = ks.length) && !xs.any fun k => hasL ks k) := by
 have hdue : (xs.any fun k => hasL ks k) = (popD ks F.due).1.isSome := by
  obtain ⟨o, r, h⟩ : ∃ o r, popD ks F.due = (o, r) := ⟨_, _, rfl⟩
  rw [h]
  cases o with
  | some k =>
   obtain ⟨h1, h2, _⟩ := popD_some h
   exact List.any_eq_true.2 ⟨k, hp.symm.subset h2, hasL_iff.2 h1⟩
  | none =>
   refine Bool.eq_false_iff.2 fun h3 => ?_
   obtain ⟨k, h4, h5⟩ := List.any_eq_true.1 h3
   exact (popD_none h).2 k (hp.subset h4) (hasL_iff.1 h5)
 rw [hdue]
 unfold overF
 rcases next_ways F ks with ⟨k, r, h1, h2⟩ | ⟨k, h1, h3, h2⟩ | ⟨h1, h3, h2⟩ <;> rw [h1, h2]
 ·exact (Bool.and_false _).symm
 ·rw [find_new h0 hs hk] at h3
  have := (List.getElem?_eq_some_iff.1 h3).1
  rw [decide_eq_false (by omega)]
  rfl
 ·rw [find_new h0 hs hk] at h3
  have h4 := pastN_le (k := F.last) hs
  have h5 : ¬ pastN ks F.last < ks.length := fun h => by
   rw [List.getElem?_eq_getElem h] at h3
   cases h3
  rw [decide_eq_true (by omega)]
  rfl
end Go.Proofs.YtcbnhakfijiioaaGreat
