/- Vaults: without any program. -/
import Derived.Test.YtcchkkdbagpgjaaGreatQ09
namespace Go.Proofs.YtcchkkdbagpgjaaGreat
open Go
/- Texts, in their order. -/
def ltK (a b : ByteArray) : Prop := Op.bytesLess a.toList b.toList = true
theorem less_irrefl : ∀ l : List UInt8, Op.bytesLess l l = false
 | [] => rfl
 | a :: l => by
  show (decide (a < a) || (a == a && Op.bytesLess l l)) = false
  rw [less_irrefl l]
  simp
theorem less_trans : ∀ {a b c : List UInt8}, Op.bytesLess a b = true → Op.bytesLess b c = true → Op.bytesLess a c = true
 | [], [], _, h, _ => nomatch h
 | _ :: _, [], _, h, _ => nomatch h
 | _, _ :: _, [], _, h => nomatch h
 | [], _ :: _, _ :: _, _, _ => rfl
 | a :: x, b :: y, c :: z, k1, k2 => by
  have h1 : (decide (a < b) || (a == b && Op.bytesLess x y)) = true := k1
  have h2 : (decide (b < c) || (b == c && Op.bytesLess y z)) = true := k2
  show (decide (a < c) || (a == c && Op.bytesLess x z)) = true
  simp only [Bool.or_eq_true, Bool.and_eq_true, decide_eq_true_eq, beq_iff_eq] at h1 h2 ⊢
  rcases h1 with h1 | ⟨rfl, h1⟩
  ·rcases h2 with h2 | ⟨rfl, h2⟩
   ·exact .inl (UInt8.lt_trans h1 h2)
   ·exact .inl h1
  ·rcases h2 with h2 | ⟨rfl, h2⟩
   ·exact .inl h2
   ·exact .inr ⟨rfl, less_trans h1 h2⟩
theorem less_tri : ∀ a b : List UInt8, Op.bytesLess a b = true ∨ a = b ∨ Op.bytesLess b a = true
 | [], [] => .inr (.inl rfl)
 | [], _ :: _ => .inl rfl
 | _ :: _, [] => .inr (.inr rfl)
 | a :: x, b :: y => by
  show (decide (a < b) || (a == b && Op.bytesLess x y)) = true ∨ _ ∨ (decide (b < a) || (b == a && Op.bytesLess y x)) = true
  simp only [Bool.or_eq_true, Bool.and_eq_true, decide_eq_true_eq, beq_iff_eq]
  rcases Nat.lt_trichotomy a.toNat b.toNat with h | h | h
  ·exact .inl (.inl (UInt8.lt_iff_toNat_lt.2 h))
  ·have e : a = b := UInt8.toNat_inj.1 h
   subst e
   rcases less_tri x y with h | rfl | h
   ·exact .inl (.inr ⟨rfl, h⟩)
   ·exact .inr (.inl rfl)
   ·exact .inr (.inr (.inr ⟨rfl, h⟩))
  ·exact .inr (.inr (.inl (UInt8.lt_iff_toNat_lt.2 h)))
theorem bytes_inj {a b : ByteArray} (h : a.toList = b.toList) : a = b := by
 rw [ByteArray.toList_eq, ByteArray.toList_eq] at h
 exact ByteArray.ext (Array.toList_inj.1 h)
theorem ltK_irrefl (a : ByteArray) : ¬ ltK a a := by unfold ltK; rw [less_irrefl]; exact Bool.false_ne_true
theorem ltK_trans {a b c : ByteArray} (h1 : ltK a b) (h2 : ltK b c) : ltK a c := less_trans h1 h2
theorem ltK_tri (a b : ByteArray) : ltK a b ∨ a = b ∨ ltK b a := (less_tri a.toList b.toList).imp id (.imp bytes_inj id)
theorem ltK_ne {a b : ByteArray} (h : ltK a b) : a ≠ b := fun e => ltK_irrefl b (e ▸ h)
instance (a b : ByteArray) : Decidable (ltK a b) := inferInstanceAs (Decidable (_ = true))
/- Bags by key. -/
abbrev Kb : Type := ByteArray × Bg
def SrtK (l : List Kb) : Prop := l.Pairwise fun p q => ltK p.1 q.1
def putK (k : ByteArray) (x : Bg) : List Kb → List Kb
 | [] => [(k, x)]
 | p :: l => if k = p.1 then (k, x) :: l else if ltK k p.1 then (k, x) :: p :: l else p :: putK k x l
def getK : List Kb → ByteArray → Option Bg
 | [], _ => none
 | p :: l, k => if p.1 = k then some p.2 else getK l k
def dropK (n : Int) (l : List Kb) : List Kb := l.filter fun p => !decide (ofK p.1 = n)
theorem getK_put (k : ByteArray) (x : Bg) : ∀ l : List Kb, getK (putK k x l) k = some x
 | [] => by simp [putK, getK]
 | p :: l => by
  unfold putK
  by_cases h : k = p.1
  ·rw [if_pos h]
   simp [getK]
  ·rw [if_neg h]
   by_cases h2 : ltK k p.1
   ·rw [if_pos h2]
    simp [getK]
   ·rw [if_neg h2]
    unfold getK
    rw [if_neg (fun e => h e.symm)]
    exact getK_put k x l
theorem getK_other {k q : ByteArray} (x : Bg) (hq : q ≠ k) : ∀ l : List Kb, getK (putK k x l) q = getK l q
 | [] => by
  show (if k = q then some x else none) = none
  rw [if_neg (fun e => hq e.symm)]
 | p :: l => by
  unfold putK
  by_cases h : k = p.1
  ·rw [if_pos h]
   show (if k = q then some x else getK l q) = (if p.1 = q then some p.2 else getK l q)
   rw [if_neg (fun e => hq e.symm), if_neg (fun e => hq (by rw [h, e]))]
  ·rw [if_neg h]
   by_cases h2 : ltK k p.1
   ·rw [if_pos h2]
    show (if k = q then some x else getK (p :: l) q) = _
    rw [if_neg (fun e => hq e.symm)]
   ·rw [if_neg h2]
    show (if p.1 = q then some p.2 else getK (putK k x l) q) = (if p.1 = q then some p.2 else getK l q)
    rw [getK_other x hq l]
theorem mem_putK {k : ByteArray} {x : Bg} {q : Kb} : ∀ {l : List Kb}, q ∈ putK k x l → q = (k, x) ∨ q ∈ l
 | [], h => .inl (by simpa [putK] using h)
 | p :: l, h => by
  unfold putK at h
  split at h
  ·rcases List.mem_cons.1 h with h | h
   ·exact .inl h
   ·exact .inr (List.mem_cons_of_mem _ h)
  ·split at h
   ·rcases List.mem_cons.1 h with h | h
    ·exact .inl h
    ·exact .inr h
   ·rcases List.mem_cons.1 h with h | h
    ·exact .inr (h ▸ List.mem_cons_self)
    ·exact (mem_putK h).imp id (List.mem_cons_of_mem _)
theorem srt_putK {k : ByteArray} {x : Bg} : ∀ {l : List Kb}, SrtK l → SrtK (putK k x l)
 | [], _ => by
  unfold putK SrtK
  simp
 | p :: l, h => by
  obtain ⟨h1, h2⟩ := List.pairwise_cons.1 h
  unfold putK
  by_cases e : k = p.1
  ·rw [if_pos e]
   exact List.pairwise_cons.2 ⟨fun q hq => by show ltK k q.1; rw [e]; exact h1 q hq, h2⟩
  ·rw [if_neg e]
   by_cases e2 : ltK k p.1
   ·rw [if_pos e2]
    refine List.pairwise_cons.2 ⟨fun q hq => ?_, h⟩
    rcases List.mem_cons.1 hq with rfl | hq
    ·exact e2
    ·exact ltK_trans e2 (h1 q hq)
   ·rw [if_neg e2]
    refine List.pairwise_cons.2 ⟨fun q hq => ?_, srt_putK h2⟩
    rcases mem_putK hq with rfl | hq
    ·rcases ltK_tri k p.1 with h3 | h3 | h3
     ·exact absurd h3 e2
     ·exact absurd h3 e
     ·exact h3
    ·exact h1 q hq
theorem getK_mem : ∀ {l : List Kb} {k : ByteArray} {x : Bg}, getK l k = some x → (k, x) ∈ l
 | p :: l, k, x, h => by
  unfold getK at h
  split at h
  ·rename_i e
   rw [← Option.some.inj h, ← e]
   exact List.mem_cons_self
  ·exact List.mem_cons_of_mem _ (getK_mem h)
theorem getK_of {l : List Kb} (hs : SrtK l) {p : Kb} (hp : p ∈ l) : getK l p.1 = some p.2 := by
 induction l with
 | nil => cases hp
 | cons q l ih =>
  obtain ⟨h1, h2⟩ := List.pairwise_cons.1 hs
  unfold getK
  rcases List.mem_cons.1 hp with rfl | hp
  ·rw [if_pos rfl]
  ·rw [if_neg (ltK_ne (h1 p hp)), ih h2 hp]
theorem len_putK {k : ByteArray} {x : Bg} : ∀ {l : List Kb}, SrtK l → (putK k x l).length = if (getK l k).isSome = true then l.length else l.length + 1
 | [], _ => rfl
 | p :: l, h => by
  obtain ⟨h1, h2⟩ := List.pairwise_cons.1 h
  unfold putK getK
  by_cases e : k = p.1
  ·rw [if_pos e, if_pos e.symm]
   rfl
  ·rw [if_neg e, if_neg (show ¬ p.1 = k from fun h => e h.symm)]
   by_cases e2 : ltK k p.1
   ·rw [if_pos e2]
    have hn : getK l k = none := by
     cases hg : getK l k with
     | none => rfl
     | some y => exact absurd (ltK_trans e2 (h1 _ (getK_mem hg))) (ltK_irrefl _)
    rw [hn]
    rfl
   ·rw [if_neg e2, List.length_cons, len_putK h2]
    split
    ·rfl
    ·rfl
theorem getK_drop {n : Int} : ∀ {l : List Kb} {k : ByteArray}, getK (dropK n l) k = if ofK k = n then none else getK l k
 | [], k => by
  show none = _
  split <;> rfl
 | p :: l, k => by
  have ih := getK_drop (n := n) (l := l) (k := k)
  unfold dropK at ih ⊢
  rw [List.filter_cons]
  by_cases h : ofK p.1 = n
  ·rw [if_neg (by simp [h]), ih]
   by_cases hk : ofK k = n
   ·rw [if_pos hk, if_pos hk]
   ·rw [if_neg hk, if_neg hk]
    show _ = (if p.1 = k then some p.2 else getK l k)
    rw [if_neg fun e => hk (by rw [← e]; exact h)]
  ·rw [if_pos (by simp [h])]
   show (if p.1 = k then some p.2 else getK (l.filter _) k) = (if ofK k = n then none else (if p.1 = k then some p.2 else getK l k))
   rw [ih]
   by_cases e : p.1 = k
   ·rw [if_pos e, if_pos e, if_neg (by rw [← e]; exact h)]
   ·rw [if_neg e, if_neg e]
/- What a node keeps. -/
structure Vt where
 inc : Int
 has : Bool
 ring : Rg
 dots : Int
 b : List Kb
def noVt : Vt := ⟨0, false, noR, 0, []⟩
def bagV (S : Vt) (k : ByteArray) : Bg := (getK S.b k).getD noB
def hasK (S : Vt) (k : ByteArray) : Bool := (getK S.b k).isSome
def keysV (S : Vt) (n : Int) : List ByteArray := (S.b.filter fun p => decide (ofK p.1 = n)).map fun p => p.1
def countD (S : Vt) (d : Dd) : Vt :=
 if d.kind = 1 then ⟨d.n, S.has, S.ring, S.dots, S.b⟩
 else if d.kind = 2 then ⟨S.inc, true, d.r, S.dots, S.b⟩
 else if d.kind = 3 then ⟨S.inc, S.has, S.ring, max S.dots d.n, putK d.key d.b S.b⟩
 else if d.kind = 4 then ⟨S.inc, S.has, S.ring, S.dots, dropK d.part S.b⟩
 else S
def playD (l : List Dd) : Vt := l.foldl countD noVt
theorem playD_snoc (l : List Dd) (d : Dd) : playD (l ++ [d]) = countD (playD l) d := by
 unfold playD
 rw [List.foldl_append]
 rfl
theorem countD_1 {S : Vt} {d : Dd} (h : d.kind = 1) : countD S d = ⟨d.n, S.has, S.ring, S.dots, S.b⟩ := if_pos h
theorem countD_2 {S : Vt} {d : Dd} (h : d.kind = 2) : countD S d = ⟨S.inc, true, d.r, S.dots, S.b⟩ := by unfold countD; rw [if_neg (by omega), if_pos h]
theorem countD_3 {S : Vt} {d : Dd} (h : d.kind = 3) : countD S d = ⟨S.inc, S.has, S.ring, max S.dots d.n, putK d.key d.b S.b⟩ := by unfold countD; rw [if_neg (by omega), if_neg (by omega), if_pos h]
theorem countD_4 {S : Vt} {d : Dd} (h : d.kind = 4) : countD S d = ⟨S.inc, S.has, S.ring, S.dots, dropK d.part S.b⟩ := by unfold countD; rw [if_neg (by omega), if_neg (by omega), if_neg (by omega), if_pos h]
structure VtOk (S : Vt) : Prop where
 srt : SrtK S.b
 key : ∀ p ∈ S.b, keyB p.1 = true
 may : ∀ p ∈ S.b, MayB p.2
 dots : 0 ≤ S.dots ∧ S.dots ≤ 1000000
 ring : S.ring.p.2.2.length ≤ 16
theorem may_kind {d : Dd} (h : mayD d = true) : d.kind = 1 ∨ d.kind = 2 ∨ d.kind = 3 ∨ d.kind = 4 := by
 by_cases h1 : d.kind = 1 ∨ d.kind = 2 ∨ d.kind = 3 ∨ d.kind = 4
 ·exact h1
 ·rw [may_no (by omega)] at h
  cases h
theorem may_bag {d : Dd} (hk : d.kind = 3) (h : mayD d = true) : keyB d.key = true ∧ MayB d.b ∧ 0 ≤ d.n ∧ d.n ≤ 1000000 := by
 rw [may_3 hk] at h
 simp only [Bool.and_eq_true] at h
 exact ⟨h.1, mayB_iff.1 h.2.1, of_decide_eq_true h.2.2.1⟩
theorem VtOk.no : VtOk noVt := ⟨List.Pairwise.nil, (fun p h => by cases h), (fun p h => by cases h), ⟨Int.le_refl _, by decide⟩, Nat.zero_le _⟩
theorem VtOk.count {S : Vt} (h : VtOk S) {d : Dd} (hd : mayD d = true) : VtOk (countD S d) := by
 rcases may_kind hd with hk | hk | hk | hk
 ·rw [countD_1 hk]
  exact ⟨h.srt, h.key, h.may, h.dots, h.ring⟩
 ·rw [countD_2 hk]
  exact ⟨h.srt, h.key, h.may, h.dots, (mayD_len hd).2⟩
 ·rw [countD_3 hk]
  obtain ⟨k1, k2, k3, k4⟩ := may_bag hk hd
  refine ⟨srt_putK h.srt, fun p hp => ?_, fun p hp => ?_, ?_, h.ring⟩
  ·rcases mem_putK hp with rfl | hp
   ·exact k1
   ·exact h.key p hp
  ·rcases mem_putK hp with rfl | hp
   ·exact k2
   ·exact h.may p hp
  ·have := h.dots
   show 0 ≤ max S.dots d.n ∧ max S.dots d.n ≤ 1000000
   omega
 ·rw [countD_4 hk]
  exact ⟨h.srt.sublist List.filter_sublist, fun p hp => h.key p ((List.mem_filter.1 hp).1), fun p hp => h.may p ((List.mem_filter.1 hp).1), h.dots, h.ring⟩
theorem VtOk.foldl : ∀ {l : List Dd} {S : Vt}, VtOk S → (∀ d ∈ l, mayD d = true) → VtOk (l.foldl countD S)
 | [], _, h, _ => h
 | d :: l, _, h, hl => VtOk.foldl (l := l) (h.count (hl d List.mem_cons_self)) fun e he => hl e (List.mem_cons_of_mem _ he)
theorem VtOk.play {l : List Dd} (h : ∀ d ∈ l, mayD d = true) : VtOk (playD l) := VtOk.no.foldl h
theorem drop_len (n : Int) (l : List Kb) : (dropK n l).length ≤ l.length := List.length_filter_le _ _
theorem count_len {S : Vt} (h : VtOk S) (d : Dd) : (countD S d).b.length ≤ S.b.length + 1 := by
 unfold countD
 split
 ·exact Nat.le_succ _
 ·split
  ·exact Nat.le_succ _
  ·split
   ·show (putK _ _ _).length ≤ _
    rw [len_putK h.srt]
    split <;> omega
   ·split
    ·exact Nat.le_succ_of_le (drop_len _ _)
    ·exact Nat.le_succ _
theorem play_len {l : List Dd} (h : ∀ d ∈ l, mayD d = true) : (playD l).b.length ≤ l.length := by
 have gen : ∀ (l : List Dd) (S : Vt), VtOk S → (∀ d ∈ l, mayD d = true) → (l.foldl countD S).b.length ≤ S.b.length + l.length := by
  intro l
  induction l with
  | nil => intro S _ _; exact Nat.le_refl _
  | cons d l ih =>
   intro S hS hl
   have h1 := ih (countD S d) (hS.count (hl d List.mem_cons_self)) fun e he => hl e (List.mem_cons_of_mem _ he)
   have h2 := count_len hS d
   rw [List.length_cons]
   show (l.foldl countD (countD S d)).b.length ≤ _
   omega
 have := gen l noVt VtOk.no h
 have e : noVt.b.length = 0 := rfl
 rw [e] at this
 unfold playD
 omega
/- The calls: over what is kept and the ledger. -/
abbrev Vl2 : Type := Vt × Lg
def writeV (X : Vl2) (d : Dd) : Vl2 × Int := if (writeL X.2 d).2 = 0 then ((countD X.1 d, (writeL X.2 d).1), 0) else (X, (writeL X.2 d).2)
def fullV (S : Vt) (k : ByteArray) : Bool := !hasK S k && decide (200 ≤ S.b.length)
def kbD (n : Int) (k : ByteArray) (b : Bg) : Dd := ⟨3, n, k, b, noR, 0⟩
def putV (X : Vl2) (node : Int) (k : ByteArray) (known : Nat → Int) (t : ByteArray) : Vl2 × En × Int :=
 if nodeE node = true ∧ keyB k = true then
  if X.1.dots < 1000000 then
   if fullV X.1 k = true then (X, (0, 0), 5)
   else
    if (putBR (bagV X.1 k) known (node, X.1.dots + 1) t).2 = 0 then
     if (writeV X (kbD (X.1.dots + 1) k (putBR (bagV X.1 k) known (node, X.1.dots + 1) t).1)).2 = 0 then
      ((writeV X (kbD (X.1.dots + 1) k (putBR (bagV X.1 k) known (node, X.1.dots + 1) t).1)).1, (node, X.1.dots + 1), 0)
     else (X, (0, 0), (writeV X (kbD (X.1.dots + 1) k (putBR (bagV X.1 k) known (node, X.1.dots + 1) t).1)).2)
    else (X, (0, 0), (putBR (bagV X.1 k) known (node, X.1.dots + 1) t).2)
  else (X, (0, 0), 6)
 else (X, (0, 0), 1)
def mergeV (X : Vl2) (k : ByteArray) (b : Bg) : Vl2 × Int :=
 if keyB k = true ∧ mayB b = true then
  if fullV X.1 k = true then (X, 5)
  else if (joinBR b (bagV X.1 k)).2 = 0 then
   if belowB b (bagV X.1 k) = true then (X, 0) else writeV X (kbD X.1.dots k (joinBR b (bagV X.1 k)).1)
  else (X, (joinBR b (bagV X.1 k)).2)
 else (X, 1)
structure Kept (X : Vl2) : Prop where
 lg : LgOk X.2
 vt : X.1 = playD X.2.l
theorem Kept.ok {X : Vl2} (h : Kept X) : VtOk X.1 := by rw [h.vt]; exact VtOk.play h.lg.may
theorem Kept.len {X : Vl2} (h : Kept X) : X.1.b.length ≤ X.2.l.length := by
 have := play_len h.lg.may
 rw [h.vt]
 exact this
theorem Kept.open {S : Lg} (h : LgOk S) : Kept (playD S.l, S) := ⟨h, rfl⟩
theorem writeL_ways (S : Lg) (d : Dd) : ((writeL S d).2 = 0 ∧ mayD d = true ∧ S.l.length < S.room ∧ (writeL S d).1 = ⟨S.room, S.sure, S.l ++ [d]⟩) ∨ ((writeL S d).2 = 5 ∧ mayD d = true ∧ S.room ≤ S.l.length ∧ (writeL S d).1 = S) ∨ ((writeL S d).2 = 1 ∧ mayD d = false ∧ (writeL S d).1 = S) := by
 unfold writeL
 by_cases h : mayD d = true
 ·rw [if_pos h]
  by_cases h2 : S.room ≤ S.l.length
  ·rw [if_pos h2]
   exact .inr (.inl ⟨rfl, h, h2, rfl⟩)
  ·rw [if_neg h2]
   exact .inl ⟨rfl, h, by omega, rfl⟩
 ·rw [if_neg h]
  exact .inr (.inr ⟨rfl, by simpa using h, rfl⟩)
theorem writeV_ways (X : Vl2) (d : Dd) : ((writeV X d).2 = 0 ∧ mayD d = true ∧ X.2.l.length < X.2.room ∧ (writeV X d).1 = (countD X.1 d, ⟨X.2.room, X.2.sure, X.2.l ++ [d]⟩)) ∨ ((writeV X d).2 ≠ 0 ∧ (mayD d = false ∨ X.2.room ≤ X.2.l.length) ∧ (writeV X d).1 = X) := by
 unfold writeV
 rcases writeL_ways X.2 d with ⟨h1, h2, h3, h4⟩ | ⟨h1, h2, h3, h4⟩ | ⟨h1, h2, h4⟩
 ·rw [if_pos h1, h4]
  exact .inl ⟨rfl, h2, h3, rfl⟩
 ·rw [if_neg (by rw [h1]; decide), h1]
  exact .inr ⟨by decide, .inr h3, rfl⟩
 ·rw [if_neg (by rw [h1]; decide), h1]
  exact .inr ⟨by decide, .inl h2, rfl⟩
theorem writeV_ok {X : Vl2} {d : Dd} (h : mayD d = true) (h2 : X.2.l.length < X.2.room) : writeV X d = ((countD X.1 d, ⟨X.2.room, X.2.sure, X.2.l ++ [d]⟩), 0) := by
 rcases writeV_ways X d with ⟨h3, _, _, h4⟩ | ⟨_, h4 | h4, _⟩
 ·exact Prod.ext h4 h3
 ·rw [h] at h4
  cases h4
 ·omega
theorem Kept.write {X : Vl2} (h : Kept X) (d : Dd) : Kept (writeV X d).1 := by
 rcases writeV_ways X d with ⟨_, h2, h3, h4⟩ | ⟨_, _, h4⟩
 ·rw [h4]
  have h5 := h.lg.write d
  rw [show writeL X.2 d = (⟨X.2.room, X.2.sure, X.2.l ++ [d]⟩, 0) from (if_pos h2).trans (if_neg (by omega))] at h5
  exact ⟨h5, by show countD X.1 d = playD (X.2.l ++ [d]); rw [playD_snoc, ← h.vt]⟩
 ·rw [h4]
  exact h
theorem bag_mayD {n : Int} {k : ByteArray} {b : Bg} (hk : keyB k = true) (hb : MayB b) (hn : 0 ≤ n ∧ n ≤ 1000000) : mayD (kbD n k b) = true := by
 rw [may_3 (d := kbD n k b) rfl, show keyB (kbD n k b).key = true from hk, show mayB (kbD n k b).b = true from mayB_iff.2 hb, show numD (kbD n k b).n = true from decide_eq_true hn, Bool.true_and, Bool.true_and, Bool.true_and]
 exact sameD_refl noD
theorem putV_ways (X : Vl2) (node : Int) (k : ByteArray) (known : Nat → Int) (t : ByteArray) : (∃ x, putV X node k known t = ((countD X.1 (kbD (X.1.dots + 1) k x), ⟨X.2.room, X.2.sure, X.2.l ++ [kbD (X.1.dots + 1) k x]⟩), (node, X.1.dots + 1), 0) ∧ mayD (kbD (X.1.dots + 1) k x) = true ∧ keyB k = true ∧ putBR (bagV X.1 k) known (node, X.1.dots + 1) t = (x, 0) ∧ fullV X.1 k = false ∧ X.2.l.length < X.2.room) ∨ (∃ e, e ≠ 0 ∧ putV X node k known t = (X, (0, 0), e)) := by
 unfold putV
 split
 ·rename_i h1
  split
  ·split
   ·exact .inr ⟨5, by decide, rfl⟩
   ·rename_i h3
    obtain ⟨x, e, hx⟩ : ∃ x e, putBR (bagV X.1 k) known (node, X.1.dots + 1) t = (x, e) := ⟨_, _, rfl⟩
    rw [hx]
    dsimp only
    split
    ·rename_i he
     subst he
     rcases writeV_ways X (kbD (X.1.dots + 1) k x) with ⟨h4, h5, h6, h7⟩ | ⟨h4, _, _⟩
     ·rw [if_pos h4, h7]
      exact .inl ⟨x, rfl, h5, h1.2, rfl, by simpa using h3, h6⟩
     ·rw [if_neg h4]
      exact .inr ⟨_, h4, rfl⟩
    ·rename_i he
     exact .inr ⟨e, he, rfl⟩
  ·exact .inr ⟨6, by decide, rfl⟩
 ·exact .inr ⟨1, by decide, rfl⟩
theorem Kept.put {X : Vl2} (h : Kept X) (node : Int) (k : ByteArray) (known : Nat → Int) (t : ByteArray) : Kept (putV X node k known t).1 := by
 rcases putV_ways X node k known t with ⟨x, e, hm, _, _, _, hr⟩ | ⟨_, _, e⟩
 ·rw [e]
  have := h.write (kbD (X.1.dots + 1) k x)
  rwa [writeV_ok hm hr] at this
 ·rw [e]
  exact h
theorem Kept.merge {X : Vl2} (h : Kept X) (k : ByteArray) (b : Bg) : Kept (mergeV X k b).1 := by
 unfold mergeV
 split
 ·split
  ·exact h
  ·split
   ·split
    ·exact h
    ·exact h.write _
   ·exact h
 ·exact h
end Go.Proofs.YtcchkkdbagpgjaaGreat
