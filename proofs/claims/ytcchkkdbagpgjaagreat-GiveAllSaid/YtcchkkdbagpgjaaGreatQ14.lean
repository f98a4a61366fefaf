/- Q14: FdE, Q07. -/
import Derived.Test.YtcchkkdbagpgjaaGreatQ18
import Derived.Test.YtcchkkdbagpgjaaGreatPH
import Derived.Test.YtcchkkdbagpgjaaGreatQ12
import Derived.Test.YtcchkkdbagpgjaaGreatBgE
import Derived.Test.YtcchkkdbagpgjaaGreatRgK
import Derived.Test.YtcchkkdbagpgjaaGreatPA
namespace Go.Proofs.YtcchkkdbagpgjaaGreat
open Go Go.RowKit Go.BigFrame
def elemD : Elem Tryz.prog ByteArray where
 enc x := [.string x]
 k := 1
 pos := by decide
 len _ := rfl
 one _ u hu := by
  simp only [List.mem_cons, List.not_mem_nil, or_false] at hu
  subst hu
  rfl
 t := 9
 sl := 146
 under := Tryz.underlying146
 z := .string ⟨#[]⟩
 bytes := 16
 bpos := by decide
 info := by kernel_rfl
 zs := by kernel_rfl
def lessK (x y : ByteArray) : Bool := decide (ltK x y)
theorem lessK_le {x y : ByteArray} : Le lessK x y ↔ ¬ ltK y x := by
 unfold Le lessK
 exact decide_eq_false_iff_not
theorem lessK_ordered : Ordered lessK := ⟨fun x y h => decide_eq_false fun h2 => ltK_irrefl x (ltK_trans (of_decide_eq_true h) h2), fun x y z h1 h2 => by
 have a1 : ¬ ltK y x := of_decide_eq_false h1
 have a2 : ¬ ltK z y := of_decide_eq_false h2
 refine decide_eq_false fun h3 => ?_
 rcases ltK_tri x y with h | rfl | h
 ·exact a2 (ltK_trans h3 h)
 ·exact a2 h3
 ·exact a1 h⟩
def dueT (c : Nat) (n : Int) (k : ByteArray) (xs : List ByteArray) : At := exT fun s : Option Addr × Nat => [boxT c (.cells #[.int .i64 n, .string k, .slice s.1 xs.length s.2] 148 (0, 0)), rowT elemD (.slice s.1 xs.length s.2) xs]
def hdT (c : Nat) (n : Int) (k : ByteArray) (D : List ByteArray) : At := exT fun xs : List ByteArray => [prT (IsHeap lessK xs.length xs ∧ xs.Perm D), dueT c n k xs]
structure FdIn (F : Fd) : Prop where
 no : F.any = false → F.last = ⟨#[]⟩
 some : F.any = true → 0 < F.last.size
 len : F.due.length ≤ 2000
def fdT (c : Nat) (F : Fd) : At := exT fun _ : Unit => [prT (FdIn F), hdT c F.part F.last F.due]
def fdN (u : Value) (F : Fd) : At := exT fun c : Nat => [prT (u = .pointer (some ⟨c, 0, none⟩)), fdT c F]
section
variable {L : List At} {H0 : Nat → Prop} {w W : World} {c : Nat} {n : Int} {k : ByteArray} {xs D : List ByteArray} {F : Fd}
theorem Mem.due (h : Mem (dueT c n k xs :: L) H0 w W) : ∃ p m, Mem (boxT c (.cells #[.int .i64 n, .string k, .slice p xs.length m] 148 (0, 0)) :: rowT elemD (.slice p xs.length m) xs :: L) H0 w W := by
 obtain ⟨s, h⟩ := Mem.ex h
 exact ⟨s.1, s.2, h⟩
theorem Mem.toDue {p : Option Addr} {m l : Nat} (hl : xs.length = l) (h : Mem (boxT c (.cells #[.int .i64 n, .string k, .slice p l m] 148 (0, 0)) :: rowT elemD (.slice p l m) xs :: L) H0 w W) : Mem (dueT c n k xs :: L) H0 w W := by
 subst hl
 exact Mem.addEx (p, m) h
theorem Mem.hd (h : Mem (hdT c n k D :: L) H0 w W) : ∃ xs, IsHeap lessK xs.length xs ∧ xs.Perm D ∧ Mem (dueT c n k xs :: L) H0 w W := by
 obtain ⟨s, h⟩ := Mem.ex h
 obtain ⟨hu, h⟩ := Mem.pr h
 exact ⟨s, hu.1, hu.2, h⟩
theorem Mem.toHd (h1 : IsHeap lessK xs.length xs) (h2 : xs.Perm D) (h : Mem (dueT c n k xs :: L) H0 w W) : Mem (hdT c n k D :: L) H0 w W := Mem.addEx xs (Mem.addPr ⟨h1, h2⟩ h)
theorem Mem.hdPerm {D' : List ByteArray} (hp : D.Perm D') (h : Mem (hdT c n k D :: L) H0 w W) : Mem (hdT c n k D' :: L) H0 w W := by
 obtain ⟨xs, h1, h2, h⟩ := Mem.hd h
 exact Mem.toHd h1 (h2.trans hp) h
theorem Mem.fd (h : Mem (fdT c F :: L) H0 w W) : FdIn F ∧ Mem (hdT c F.part F.last F.due :: L) H0 w W := by
 obtain ⟨s, h⟩ := Mem.ex h
 exact Mem.pr h
theorem Mem.toFd (hF : FdIn F) (h : Mem (hdT c F.part F.last F.due :: L) H0 w W) : Mem (fdT c F :: L) H0 w W := Mem.addEx () (Mem.addPr hF h)
theorem Mem.fdN {u : Value} (h : Mem (fdN u F :: L) H0 w W) : ∃ c, u = .pointer (some ⟨c, 0, none⟩) ∧ Mem (fdT c F :: L) H0 w W := by
 obtain ⟨s, h⟩ := Mem.ex h
 obtain ⟨hu, h⟩ := Mem.pr h
 exact ⟨s, hu, h⟩
theorem Mem.swap2 {A B : At} (h : Mem (A :: B :: L) H0 w W) : Mem (B :: A :: L) H0 w W := SEnd.mono h fun _ h => star_swap h
theorem Mem.nilDue (h : Mem (boxT c (.cells #[.int .i64 n, .string k, .slice none 0 0] 148 (0, 0)) :: L) H0 w W) : Mem (dueT c n k [] :: L) H0 w W := Mem.toDue (p := none) (m := 0) rfl (Mem.swap2 (Mem.nilRow elemD h))
theorem Mem.nilHd (h : Mem (boxT c (.cells #[.int .i64 n, .string k, .slice none 0 0] 148 (0, 0)) :: L) H0 w W) : Mem (hdT c n k [] :: L) H0 w W := Mem.toHd (xs := []) (fun k _ hk => absurd hk (Nat.not_lt_zero k)) (List.Perm.refl _) (Mem.nilDue h)
end
end Go.Proofs.YtcchkkdbagpgjaaGreat
namespace Go.Proofs.YtcchkkdbagpgjaaGreat
open Go
def lowN : List ByteArray → ByteArray → Nat
 | [], _ => 0
 | p :: l, k => if ltK p k then lowN l k + 1 else 0
theorem lowN_le : ∀ (l : List ByteArray) (k : ByteArray), lowN l k ≤ l.length
 | [], _ => Nat.le_refl _
 | p :: l, k => by
  unfold lowN
  split
  ·exact Nat.succ_le_succ (lowN_le l k)
  ·exact Nat.zero_le _
theorem lowN_lt : ∀ {l : List ByteArray} {k : ByteArray} {i : Nat} {p : ByteArray}, i < lowN l k → l[i]? = some p → ltK p k
 | [], _, _, _, h, _ => absurd h (Nat.not_lt_zero _)
 | q :: l, k, i, p, h, hp => by
  unfold lowN at h
  split at h
  ·rename_i hq
   cases i with
   | zero =>
    obtain rfl := Option.some.inj hp
    exact hq
   | succ i => exact lowN_lt (Nat.lt_of_succ_lt_succ h) (by rw [List.getElem?_cons_succ] at hp; exact hp)
  ·exact absurd h (Nat.not_lt_zero _)
theorem lowN_not : ∀ {l : List ByteArray} {k : ByteArray} {p : ByteArray}, l[lowN l k]? = some p → ¬ ltK p k
 | [], _, _, h => by cases h
 | q :: l, k, p, h => by
  unfold lowN at h
  split at h
  ·rw [List.getElem?_cons_succ] at h
   exact lowN_not h
  ·rename_i hq
   obtain rfl := Option.some.inj h
   exact hq
theorem lowN_ge {l : List ByteArray} {k : ByteArray} (hs : l.Pairwise ltK) {i : Nat} {p : ByteArray} (hi : lowN l k ≤ i) (hp : l[i]? = some p) : ¬ ltK p k := by
 obtain ⟨hlt, _⟩ := List.getElem?_eq_some_iff.1 hp
 have hq : l[lowN l k]? = some l[lowN l k] := List.getElem?_eq_getElem (by omega)
 intro h
 have h1 := lowN_not hq
 rcases Nat.lt_or_eq_of_le hi with h2 | h2
 ·exact h1 (ltK_trans (srt_lt hs hq hp h2) h)
 ·subst h2
  exact lowN_not hp h
theorem lowN_iff {l : List ByteArray} {k : ByteArray} (hs : l.Pairwise ltK) {i : Nat} {p : ByteArray} (hp : l[i]? = some p) : ltK p k ↔ i < lowN l k :=
 ⟨fun h => (Nat.lt_or_ge i (lowN l k)).elim id fun h2 => absurd h (lowN_ge hs h2 hp), fun h => lowN_lt h hp⟩
theorem low_ways {l : List ByteArray} (k : ByteArray) (hs : l.Pairwise ltK) : (lowN l k = l.length ∧ hasL l k = false) ∨ (∃ p, lowN l k < l.length ∧ l[lowN l k]? = some p ∧ p = k ∧ hasL l k = true) ∨ (∃ p, lowN l k < l.length ∧ l[lowN l k]? = some p ∧ p ≠ k ∧ hasL l k = false) := by
 have hno : (∀ p, l[lowN l k]? = some p → p ≠ k) → hasL l k = false := fun h => by
  refine Bool.eq_false_iff.2 fun h2 => ?_
  obtain ⟨i, hi, hk⟩ := List.getElem_of_mem (hasL_iff.1 h2)
  have hp : l[i]? = some k := by rw [List.getElem?_eq_getElem hi, hk]
  have h3 : lowN l k ≤ i := (Nat.lt_or_ge i (lowN l k)).elim (fun h4 => absurd (lowN_lt h4 hp) (ltK_irrefl k)) id
  have hq : l[lowN l k]? = some l[lowN l k] := List.getElem?_eq_getElem (by omega)
  rcases Nat.lt_or_eq_of_le h3 with h4 | h4
  ·exact lowN_not hq (srt_lt hs hq hp h4)
  ·rw [← h4] at hp
   exact h _ hp rfl
 rcases Nat.lt_or_ge (lowN l k) l.length with h | h
 ·have hq : l[lowN l k]? = some l[lowN l k] := List.getElem?_eq_getElem h
  by_cases he : l[lowN l k] = k
  ·refine .inr (.inl ⟨_, h, hq, he, hasL_iff.2 ?_⟩)
   exact List.mem_of_getElem? (hq.trans (congrArg some he))
  ·refine .inr (.inr ⟨_, h, hq, he, hno fun p hp => ?_⟩)
   rw [hq] at hp
   obtain rfl := Option.some.inj hp
   exact he
 ·refine .inl ⟨Nat.le_antisymm (lowN_le l k) h, hno fun p hp => ?_⟩
  rw [List.getElem?_eq_none h] at hp
  cases hp
def pastN (l : List ByteArray) (k : ByteArray) : Nat := if hasL l k = true then lowN l k + 1 else lowN l k
theorem pastN_le {l : List ByteArray} {k : ByteArray} (hs : l.Pairwise ltK) : pastN l k ≤ l.length := by
 unfold pastN
 rcases low_ways k hs with ⟨h1, h2⟩ | ⟨p, h1, _, _, h2⟩ | ⟨p, h1, _, _, h2⟩ <;> rw [h2]
 ·exact Nat.le_of_eq h1
 ·exact h1
 ·exact Nat.le_of_lt h1
theorem past_iff {l : List ByteArray} {k : ByteArray} (hs : l.Pairwise ltK) {j : Nat} {p : ByteArray} (hp : l[j]? = some p) : decide (ltK k p) = decide (pastN l k ≤ j) := by
 have hlow := lowN_iff (k := k) hs hp
 have hlt := (List.getElem?_eq_some_iff.1 hp).1
 refine decide_eq_decide.2 ?_
 unfold pastN
 rcases low_ways k hs with ⟨h1, h2⟩ | ⟨q, h1, h3, h4, h2⟩ | ⟨q, h1, h3, h4, h2⟩ <;> rw [h2]
 ·rw [if_neg Bool.false_ne_true]
  exact ⟨fun h => absurd (ltK_trans h (hlow.2 (by omega))) (ltK_irrefl k), fun h => by omega⟩
 ·rw [if_pos rfl]
  subst h4
  constructor
  ·intro h
   rcases Nat.lt_or_ge (lowN l q) j with h5 | h5
   ·exact h5
   ·rcases Nat.lt_or_eq_of_le h5 with h6 | h6
    ·exact absurd (ltK_trans h (hlow.2 h6)) (ltK_irrefl q)
    ·rw [← h6, hp] at h3
     obtain rfl := Option.some.inj h3
     exact absurd h (ltK_irrefl p)
  ·exact fun h => srt_lt hs h3 hp h
 ·rw [if_neg Bool.false_ne_true]
  constructor
  ·exact fun h => (Nat.lt_or_ge j (lowN l k)).elim (fun h5 => absurd (ltK_trans h (hlow.2 h5)) (ltK_irrefl k)) id
  ·intro h
   rcases ltK_tri k p with h5 | h5 | h5
   ·exact h5
   ·subst h5
    rcases Nat.lt_or_eq_of_le h with h6 | h6
    ·exact absurd (srt_lt hs h3 hp h6) (lowN_not h3)
    ·rw [h6, hp] at h3
     exact absurd (Option.some.inj h3).symm h4
   ·exact absurd (hlow.1 h5) (Nat.not_lt.2 h)
theorem less_none : ∀ (a : ByteArray), ¬ ltK a ⟨#[]⟩ := fun a h => by
 unfold ltK at h
 have : ∀ l : List UInt8, Op.bytesLess l [] = false := fun l => by cases l <;> rfl
 rw [show (⟨#[]⟩ : ByteArray).toList = [] from by decide +kernel, this] at h
 cases h
theorem none_less {k : ByteArray} (h : 0 < k.size) : ltK ⟨#[]⟩ k := by
 rcases ltK_tri ⟨#[]⟩ k with h1 | h1 | h1
 ·exact h1
 ·subst h1
  exact absurd h (by decide)
 ·exact absurd h1 (less_none k)
theorem new_iff {F : Fd} (h0 : F.any = false → F.last = ⟨#[]⟩) {ks : List ByteArray} (hs : ks.Pairwise ltK) (hk : ∀ k ∈ ks, 0 < k.size) {j : Nat} {k : ByteArray} (hp : ks[j]? = some k) : newK F k = decide (pastN ks F.last ≤ j) := by
 unfold newK
 rw [← past_iff hs hp]
 cases ha : F.any with
 | true => rfl
 | false =>
  rw [h0 ha, decide_eq_true (none_less (hk k (List.mem_of_getElem? hp)))]
  rfl
theorem find_new {F : Fd} (h0 : F.any = false → F.last = ⟨#[]⟩) {ks : List ByteArray} (hs : ks.Pairwise ltK) (hk : ∀ k ∈ ks, 0 < k.size) : ks.find? (newK F) = ks[pastN ks F.last]? := find_at fun _ _ hp => new_iff h0 hs hk hp
theorem back_iff {F : Fd} (h0 : F.any = false → F.last = ⟨#[]⟩) {k : ByteArray} (hk : 0 < k.size) : backB F k = (decide (ofK k = F.part) && !decide (ltK F.last k)) := by
 unfold backB
 cases ha : F.any with
 | true => rw [Bool.true_and]
 | false => rw [h0 ha, decide_eq_true (none_less hk), Bool.false_and]; rfl
theorem insK_perm {k : ByteArray} : ∀ {l : List ByteArray}, k ∉ l → (l ++ [k]).Perm (insK k l)
 | [], _ => List.Perm.refl _
 | x :: l, h => by
  have h1 : k ≠ x := fun e => h (e ▸ List.mem_cons_self)
  have h2 : k ∉ l := fun e => h (List.mem_cons_of_mem _ e)
  unfold insK
  rw [if_neg h1]
  split
  ·exact List.perm_append_singleton k (x :: l)
  ·exact (insK_perm h2).cons x
theorem insK_in {k : ByteArray} : ∀ {l : List ByteArray}, l.Pairwise ltK → k ∈ l → insK k l = l
 | [], _, h => by cases h
 | x :: l, hs, h => by
  obtain ⟨h1, h2⟩ := List.pairwise_cons.1 hs
  unfold insK
  by_cases e : k = x
  ·rw [if_pos e]
  ·rw [if_neg e]
   rcases List.mem_cons.1 h with h3 | h3
   ·exact absurd h3 e
   ·rw [if_neg (fun h4 => ltK_irrefl x (ltK_trans (h1 k h3) h4)), insK_in h2 h3]
theorem insK_len (k : ByteArray) : ∀ l : List ByteArray, (insK k l).length ≤ l.length + 1
 | [] => Nat.le_refl _
 | x :: l => by
  unfold insK
  split
  ·exact Nat.le_succ _
  ·split
   ·exact Nat.le_refl _
   ·exact Nat.succ_le_succ (insK_len k l)
theorem hasL_perm {a b : List ByteArray} (h : a.Perm b) (k : ByteArray) : hasL a k = hasL b k := by
 cases hb : hasL b k with
 | true => exact hasL_iff.2 (h.symm.subset (hasL_iff.1 hb))
 | false => exact Bool.eq_false_iff.2 fun ha => by rw [hasL_iff.2 (h.subset (hasL_iff.1 ha))] at hb; cases hb
theorem over_ways {F : Fd} (h0 : F.any = false → F.last = ⟨#[]⟩) {ks : List ByteArray} (hs : ks.Pairwise ltK) (hk : ∀ k ∈ ks, 0 < k.size) {xs : List ByteArray} (hp : xs.Perm F.due) : overF F ks = (decide (pastN ks F.last = ks.length) && !xs.any fun k => hasL ks k) := by
 have hdue : (xs.any fun k => hasL ks k) = (popD ks F.due).1.isSome := by
  obtain ⟨o, r, h⟩ : ∃ o r, popD ks F.due = (o, r) := ⟨_, _, rfl⟩
  rw [h]
  cases o with
  | some k =>
   obtain ⟨h1, h2, _⟩ := popD_some h
   exact List.any_eq_true.2 ⟨k, hp.symm.subset h2, hasL_iff.2 h1⟩
  | none =>
   refine Bool.eq_false_iff.2 fun h3 => ?_
   obtain ⟨k, h4, h5⟩ := List.any_eq_true.1 h3
   exact (popD_none h).2 k (hp.subset h4) (hasL_iff.1 h5)
 rw [hdue]
 unfold overF
 rcases next_ways F ks with ⟨k, r, h1, h2⟩ | ⟨k, h1, h3, h2⟩ | ⟨h1, h3, h2⟩ <;> rw [h1, h2]
 ·exact (Bool.and_false _).symm
 ·rw [find_new h0 hs hk] at h3
  have := (List.getElem?_eq_some_iff.1 h3).1
  rw [decide_eq_false (by omega)]
  rfl
 ·rw [find_new h0 hs hk] at h3
  have h4 := pastN_le (k := F.last) hs
  have h5 : ¬ pastN ks F.last < ks.length := fun h => by
   rw [List.getElem?_eq_getElem h] at h3
   cases h3
  rw [decide_eq_true (by omega)]
  rfl
end Go.Proofs.YtcchkkdbagpgjaaGreat
namespace Go.Proofs.YtcchkkdbagpgjaaGreat
end Go.Proofs.YtcchkkdbagpgjaaGreat
