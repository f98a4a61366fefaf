/- LgM: LgM. -/
import Derived.Test.YtcbnhakfijiioaaGreatBgM
namespace Go.Proofs.YtcbnhakfijiioaaGreat
section
structure Dd where
 kind : Int
 n : Int
 key : ByteArray
 b : Bg
 r : Rg
 part : Int
def noD : Dd := ⟨0, 0, ⟨#[]⟩, noB, noR, 0⟩
def keyB (s : ByteArray) : Bool := decide (1 ≤ s.size ∧ s.size ≤ 32)
def sameD (a b : Dd) : Bool := decide (a.kind = b.kind) && (decide (a.n = b.n) && (decide (a.key = b.key) && (decide (a.part = b.part) && (sameB a.b b.b && sameR a.r b.r))))
def noneD (d : Dd) : Bool := sameD d noD
def numD (n : Int) : Bool := decide (0 ≤ n ∧ n ≤ 1000000)
def bareD (d : Dd) : Dd :=
 if d.kind = 1 then ⟨0, 0, d.key, d.b, d.r, d.part⟩
 else if d.kind = 2 then ⟨0, d.n, d.key, d.b, noR, d.part⟩
 else if d.kind = 3 then ⟨0, 0, ⟨#[]⟩, noB, d.r, d.part⟩
 else ⟨0, d.n, d.key, d.b, d.r, 0⟩
def restD (d : Dd) : Bool :=
 if d.kind = 1 then numD d.n
 else if d.kind = 2 then mayR d.r
 else if d.kind = 3 then keyB d.key && (mayB d.b && numD d.n)
 else if d.kind = 4 then decide (0 ≤ d.part ∧ d.part < 16)
 else false
def mayD (d : Dd) : Bool := restD d && noneD (bareD d)
theorem may_1 {d : Dd} (h : d.kind = 1) : mayD d = (numD d.n && noneD ⟨0, 0, d.key, d.b, d.r, d.part⟩) := by
 unfold mayD restD bareD
 rw [if_pos h, if_pos h]
theorem may_2 {d : Dd} (h : d.kind = 2) : mayD d = (mayR d.r && noneD ⟨0, d.n, d.key, d.b, noR, d.part⟩) := by
 unfold mayD restD bareD
 rw [if_neg (by omega), if_pos h, if_neg (by omega), if_pos h]
theorem may_3 {d : Dd} (h : d.kind = 3) : mayD d = (keyB d.key && (mayB d.b && (numD d.n && noneD ⟨0, 0, ⟨#[]⟩, noB, d.r, d.part⟩))) := by
 unfold mayD restD bareD
 rw [if_neg (by omega), if_neg (by omega), if_pos h, if_neg (by omega), if_neg (by omega), if_pos h, Bool.and_assoc, Bool.and_assoc]
theorem may_4 {d : Dd} (h : d.kind = 4) : mayD d = (decide (0 ≤ d.part ∧ d.part < 16) && noneD ⟨0, d.n, d.key, d.b, d.r, 0⟩) := by
 unfold mayD restD bareD
 rw [if_neg (by omega), if_neg (by omega), if_neg (by omega), if_pos h, if_neg (by omega), if_neg (by omega), if_neg (by omega)]
theorem may_no {d : Dd} (h : d.kind ≠ 1 ∧ d.kind ≠ 2 ∧ d.kind ≠ 3 ∧ d.kind ≠ 4) : mayD d = false := by
 unfold mayD restD
 rw [if_neg h.1, if_neg h.2.1, if_neg h.2.2.1, if_neg h.2.2.2]
 rfl
theorem sameD_iff {a b : Dd} : sameD a b = true ↔ a.kind = b.kind ∧ a.n = b.n ∧ a.key = b.key ∧ a.part = b.part ∧ sameB a.b b.b = true ∧ sameR a.r b.r = true := by
 unfold sameD
 simp only [Bool.and_eq_true, decide_eq_true_eq]
/- Rows of deeds that are the same. -/
structure Lg where
 room : Nat
 sure : Nat
 l : List Dd
def newL (room : Int) : Lg := ⟨(max 0 (min room 3000)).toNat, 0, []⟩
def writeL (S : Lg) (d : Dd) : Lg × Int := if mayD d = true then (if S.room ≤ S.l.length then (S, 5) else (⟨S.room, S.sure, S.l ++ [d]⟩, 0)) else (S, 1)
structure LgOk (S : Lg) : Prop where
 room : S.room ≤ 3000
 len : S.l.length ≤ S.room
 sure : S.sure ≤ S.l.length
 may : ∀ d ∈ S.l, mayD d = true
theorem LgOk.new (room : Int) : LgOk (newL room) := ⟨by show (max 0 (min room 3000)).toNat ≤ 3000; omega, Nat.zero_le _, Nat.le_refl _, fun d h => by cases h⟩
theorem LgOk.write {S : Lg} (h : LgOk S) (d : Dd) : LgOk (writeL S d).1 := by
 unfold writeL
 have h1 := h.len
 have h2 := h.sure
 by_cases hd : mayD d = true
 ·rw [if_pos hd]
  split
  ·exact h
  ·refine ⟨h.room, by show (S.l ++ [d]).length ≤ S.room; rw [List.length_append, List.length_singleton]; omega, by show S.sure ≤ (S.l ++ [d]).length; rw [List.length_append]; omega, fun x hx => ?_⟩
   have hx : x ∈ S.l ++ [d] := hx
   rw [List.mem_append, List.mem_singleton] at hx
   rcases hx with hx | rfl
   ·exact h.may x hx
   ·exact hd
 ·rw [if_neg hd]
  exact h
theorem sameB_len {a b : Bg} (h : sameB a b = true) : a.v = b.v := by
 unfold sameB at h
 rw [Bool.and_eq_true] at h
 exact of_decide_eq_true h.2
theorem mayP_len {p : Pl} (h : mayP p = true) : p.2.2.length ≤ 16 := by
 unfold mayP noneB tgtL at h
 simp only [Bool.or_eq_true, Bool.and_eq_true, decide_eq_true_eq] at h
 omega
theorem mayD_len {d : Dd} (h : mayD d = true) : d.b.v.length ≤ 32 ∧ d.r.p.2.2.length ≤ 16 := by
 have hm := h
 unfold mayD at h
 rw [Bool.and_eq_true] at h
 have hn := sameD_iff.1 h.2
 have hb := sameB_len hn.2.2.2.2.1
 have hr := (sameR_iff.1 hn.2.2.2.2.2).2.1
 have e1 : noD.b.v = [] := rfl
 have e2 : noD.r.p = (0, 0, []) := rfl
 rw [e1] at hb
 rw [e2] at hr
 unfold bareD at hb hr
 by_cases h1 : d.kind = 1
 ·rw [if_pos h1] at hb hr
  have hb : d.b.v = [] := hb
  have hr : d.r.p = (0, 0, []) := hr
  rw [hb, hr]
  exact ⟨Nat.zero_le _, Nat.zero_le _⟩
 by_cases h2 : d.kind = 2
 ·rw [if_neg h1, if_pos h2] at hb
  have hb : d.b.v = [] := hb
  have hq := h.1
  unfold restD at hq
  rw [if_neg h1, if_pos h2] at hq
  unfold mayR at hq
  rw [Bool.and_eq_true, Bool.and_eq_true] at hq
  rw [hb]
  exact ⟨Nat.zero_le _, mayP_len hq.2.2⟩
 by_cases h3 : d.kind = 3
 ·rw [if_neg h1, if_neg h2, if_pos h3] at hr
  have hr : d.r.p = (0, 0, []) := hr
  have hq := h.1
  unfold restD at hq
  rw [if_neg h1, if_neg h2, if_pos h3, Bool.and_eq_true, Bool.and_eq_true] at hq
  rw [hr]
  exact ⟨(mayB_iff.1 hq.2.1).len, Nat.zero_le _⟩
 ·rw [if_neg h1, if_neg h2, if_neg h3] at hb hr
  have hb : d.b.v = [] := hb
  have hr : d.r.p = (0, 0, []) := hr
  rw [hb, hr]
  exact ⟨Nat.zero_le _, Nat.zero_le _⟩
end
end Go.Proofs.YtcbnhakfijiioaaGreat
