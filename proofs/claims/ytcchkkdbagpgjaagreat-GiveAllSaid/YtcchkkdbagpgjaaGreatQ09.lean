/- Q09: LgM, Spo. -/
import Derived.Test.YtcchkkdbagpgjaaGreatBgM
import Derived.Test.YtcchkkdbagpgjaaGreatPA
import Derived.Test.YtcchkkdbagpgjaaGreatRows
import Derived.Laws.Bits64
import Derived.StillTailTactics
import Derived.RangeFuncBox
namespace Go.Proofs.YtcchkkdbagpgjaaGreat
section
structure Dd where
 kind : Int
 n : Int
 key : ByteArray
 b : Bg
 r : Rg
 part : Int
def noD : Dd := ⟨0, 0, ⟨#[]⟩, noB, noR, 0⟩
def keyB (s : ByteArray) : Bool := decide (1 ≤ s.size ∧ s.size ≤ 32)
def sameD (a b : Dd) : Bool := decide (a.kind = b.kind) && (decide (a.n = b.n) && (decide (a.key = b.key) && (decide (a.part = b.part) && (sameB a.b b.b && sameR a.r b.r))))
def noneD (d : Dd) : Bool := sameD d noD
def numD (n : Int) : Bool := decide (0 ≤ n ∧ n ≤ 1000000)
def bareD (d : Dd) : Dd :=
 if d.kind = 1 then ⟨0, 0, d.key, d.b, d.r, d.part⟩
 else if d.kind = 2 then ⟨0, d.n, d.key, d.b, noR, d.part⟩
 else if d.kind = 3 then ⟨0, 0, ⟨#[]⟩, noB, d.r, d.part⟩
 else ⟨0, d.n, d.key, d.b, d.r, 0⟩
def restD (d : Dd) : Bool :=
 if d.kind = 1 then numD d.n
 else if d.kind = 2 then mayR d.r
 else if d.kind = 3 then keyB d.key && (mayB d.b && numD d.n)
 else if d.kind = 4 then decide (0 ≤ d.part ∧ d.part < 16)
 else false
def mayD (d : Dd) : Bool := restD d && noneD (bareD d)
theorem may_1 {d : Dd} (h : d.kind = 1) : mayD d = (numD d.n && noneD ⟨0, 0, d.key, d.b, d.r, d.part⟩) := by
 unfold mayD restD bareD
 rw [if_pos h, if_pos h]
theorem may_2 {d : Dd} (h : d.kind = 2) : mayD d = (mayR d.r && noneD ⟨0, d.n, d.key, d.b, noR, d.part⟩) := by
 unfold mayD restD bareD
 rw [if_neg (by omega), if_pos h, if_neg (by omega), if_pos h]
theorem may_3 {d : Dd} (h : d.kind = 3) : mayD d = (keyB d.key && (mayB d.b && (numD d.n && noneD ⟨0, 0, ⟨#[]⟩, noB, d.r, d.part⟩))) := by
 unfold mayD restD bareD
 rw [if_neg (by omega), if_neg (by omega), if_pos h, if_neg (by omega), if_neg (by omega), if_pos h, Bool.and_assoc, Bool.and_assoc]
theorem may_4 {d : Dd} (h : d.kind = 4) : mayD d = (decide (0 ≤ d.part ∧ d.part < 16) && noneD ⟨0, d.n, d.key, d.b, d.r, 0⟩) := by
 unfold mayD restD bareD
 rw [if_neg (by omega), if_neg (by omega), if_neg (by omega), if_pos h, if_neg (by omega), if_neg (by omega), if_neg (by omega)]
theorem may_no {d : Dd} (h : d.kind ≠ 1 ∧ d.kind ≠ 2 ∧ d.kind ≠ 3 ∧ d.kind ≠ 4) : mayD d = false := by
 unfold mayD restD
 rw [if_neg h.1, if_neg h.2.1, if_neg h.2.2.1, if_neg h.2.2.2]
 rfl
theorem sameD_refl (d : Dd) : sameD d d = true := by
 unfold sameD sameB
 rw [decide_eq_true rfl, decide_eq_true rfl, decide_eq_true rfl, decide_eq_true rfl, decide_eq_true rfl, decide_eq_true rfl, sameR_iff.2 ⟨fun _ _ => rfl, rfl, fun _ _ => rfl⟩]
 rfl
theorem sameD_iff {a b : Dd} : sameD a b = true ↔ a.kind = b.kind ∧ a.n = b.n ∧ a.key = b.key ∧ a.part = b.part ∧ sameB a.b b.b = true ∧ sameR a.r b.r = true := by
 unfold sameD
 simp only [Bool.and_eq_true, decide_eq_true_eq]
/- Rows of deeds that are the same. -/
structure Lg where
 room : Nat
 sure : Nat
 l : List Dd
def newL (room : Int) : Lg := ⟨(max 0 (min room 3000)).toNat, 0, []⟩
def writeL (S : Lg) (d : Dd) : Lg × Int := if mayD d = true then (if S.room ≤ S.l.length then (S, 5) else (⟨S.room, S.sure, S.l ++ [d]⟩, 0)) else (S, 1)
structure LgOk (S : Lg) : Prop where
 room : S.room ≤ 3000
 len : S.l.length ≤ S.room
 sure : S.sure ≤ S.l.length
 may : ∀ d ∈ S.l, mayD d = true
theorem LgOk.new (room : Int) : LgOk (newL room) := ⟨by show (max 0 (min room 3000)).toNat ≤ 3000; omega, Nat.zero_le _, Nat.le_refl _, fun d h => by cases h⟩
theorem LgOk.write {S : Lg} (h : LgOk S) (d : Dd) : LgOk (writeL S d).1 := by
 unfold writeL
 have h1 := h.len
 have h2 := h.sure
 by_cases hd : mayD d = true
 ·rw [if_pos hd]
  split
  ·exact h
  ·refine ⟨h.room, by show (S.l ++ [d]).length ≤ S.room; rw [List.length_append, List.length_singleton]; omega, by show S.sure ≤ (S.l ++ [d]).length; rw [List.length_append]; omega, fun x hx => ?_⟩
   have hx : x ∈ S.l ++ [d] := hx
   rw [List.mem_append, List.mem_singleton] at hx
   rcases hx with hx | rfl
   ·exact h.may x hx
   ·exact hd
 ·rw [if_neg hd]
  exact h
theorem sameB_len {a b : Bg} (h : sameB a b = true) : a.v = b.v := by
 unfold sameB at h
 rw [Bool.and_eq_true] at h
 exact of_decide_eq_true h.2
theorem mayP_len {p : Pl} (h : mayP p = true) : p.2.2.length ≤ 16 := by
 unfold mayP noneB tgtL at h
 simp only [Bool.or_eq_true, Bool.and_eq_true, decide_eq_true_eq] at h
 omega
theorem mayD_len {d : Dd} (h : mayD d = true) : d.b.v.length ≤ 32 ∧ d.r.p.2.2.length ≤ 16 := by
 have hm := h
 unfold mayD at h
 rw [Bool.and_eq_true] at h
 have hn := sameD_iff.1 h.2
 have hb := sameB_len hn.2.2.2.2.1
 have hr := (sameR_iff.1 hn.2.2.2.2.2).2.1
 have e1 : noD.b.v = [] := rfl
 have e2 : noD.r.p = (0, 0, []) := rfl
 rw [e1] at hb
 rw [e2] at hr
 unfold bareD at hb hr
 by_cases h1 : d.kind = 1
 ·rw [if_pos h1] at hb hr
  have hb : d.b.v = [] := hb
  have hr : d.r.p = (0, 0, []) := hr
  rw [hb, hr]
  exact ⟨Nat.zero_le _, Nat.zero_le _⟩
 by_cases h2 : d.kind = 2
 ·rw [if_neg h1, if_pos h2] at hb
  have hb : d.b.v = [] := hb
  have hq := h.1
  unfold restD at hq
  rw [if_neg h1, if_pos h2] at hq
  unfold mayR at hq
  rw [Bool.and_eq_true, Bool.and_eq_true] at hq
  rw [hb]
  exact ⟨Nat.zero_le _, mayP_len hq.2.2⟩
 by_cases h3 : d.kind = 3
 ·rw [if_neg h1, if_neg h2, if_pos h3] at hr
  have hr : d.r.p = (0, 0, []) := hr
  have hq := h.1
  unfold restD at hq
  rw [if_neg h1, if_neg h2, if_pos h3, Bool.and_eq_true, Bool.and_eq_true] at hq
  rw [hr]
  exact ⟨(mayB_iff.1 hq.2.1).len, Nat.zero_le _⟩
 ·rw [if_neg h1, if_neg h2, if_neg h3] at hb hr
  have hb : d.b.v = [] := hb
  have hr : d.r.p = (0, 0, []) := hr
  rw [hb, hr]
  exact ⟨Nat.zero_le _, Nat.zero_le _⟩
end
end Go.Proofs.YtcchkkdbagpgjaaGreat
namespace Go.Proofs.YtcchkkdbagpgjaaGreat
section
open Go Go.RowKit
def mayK (s : ByteArray) : Bool := decide (1 ≤ s.size ∧ s.size ≤ 32)
def stepH (h : BitVec 64) (b : UInt8) : BitVec 64 := (h ^^^ BitVec.ofNat 64 b.toNat) * 1099511628211#64
def rawH (l : List UInt8) : BitVec 64 := l.foldl stepH 14695981039346656037#64
def mixH (h : BitVec 64) : BitVec 64 := h ^^^ (h >>> 32)
def hashK (s : ByteArray) : BitVec 64 := mixH (rawH s.data.toList)
def u64V (h : BitVec 64) : Value := .int .u64 (h.toNat : Int)
def ofK (s : ByteArray) : Int := if mayK s = true then ((hashK s).toNat : Int) % 16 else -1
theorem xor_u64 (a b : BitVec 64) : bits .xor .u64 (a.toNat : Int) (b.toNat : Int) = ((a ^^^ b).toNat : Int) := by
 rw [bits_xor_u64_nat _ _ a.isLt b.isLt, BitVec.toNat_xor]
theorem byte_u64 (b : UInt8) : IntKind.u64.wrap (b.toNat : Int) = ((BitVec.ofNat 64 b.toNat).toNat : Int) := by
 rw [IntKind.wrap_u64, BitVec.toNat_ofNat]
 omega
theorem mul_u64 (a : BitVec 64) : IntKind.u64.wrap ((a.toNat : Int) * 1099511628211) = ((a * 1099511628211#64).toNat : Int) := by
 rw [IntKind.wrap_u64, BitVec.toNat_mul]
 simp only [BitVec.toNat_ofNat]
 omega
theorem step_u64 (h : BitVec 64) (b : UInt8) : IntKind.u64.wrap (bits .xor .u64 (h.toNat : Int) (IntKind.u64.wrap (b.toNat : Int)) * 1099511628211) = ((stepH h b).toNat : Int) := by
 rw [byte_u64, xor_u64, mul_u64]
 rfl
theorem shift_u64 (h : BitVec 64) : ((h.toNat : Int) / (4294967296 : Int)) = ((h >>> 32).toNat : Int) := by
 rw [BitVec.toNat_ushiftRight, Nat.shiftRight_eq_div_pow]
 omega
theorem mix_u64 (h : BitVec 64) : bits .xor .u64 (h.toNat : Int) ((h.toNat : Int) / (4294967296 : Int)) = ((mixH h).toNat : Int) := by
 rw [shift_u64, xor_u64]
 rfl
theorem rawH_snoc (l : List UInt8) (b : UInt8) : rawH (l ++ [b]) = stepH (rawH l) b := by
 simp [rawH]
theorem may_any (s : ByteArray) (w : World) : Gives Tryz.prog 61 #[.string s] w (.bool (mayK s)) := by
 unfold Gives
 have HM : Hid (mayK s = decide (1 ≤ s.size ∧ s.size ≤ 32)) := Lib.hid rfl
 rw [HM.out]
 go_enter Tryz.func61, Tryz.ntmps61
 go_wp2_with fail
 all_goals go_ret
 all_goals refine ⟨congrArg Ending.returned (congrArg Value.bool ?_), Later.ex (Below.refl _ _)⟩
 ·refine decide_eq_decide.2 ?_; omega
 ·have hf : ¬(1 ≤ s.size ∧ s.size ≤ 32) := by omega
  rw [← Bool.decide_and]
  exact (decide_eq_false hf).symm
theorem take_snoc {s : ByteArray} {k : Nat} (hk : k < s.size) : s.data.toList.take (k + 1) = s.data.toList.take k ++ [s[k]] := by
 have : k < s.data.toList.length := by simpa using hk
 rw [List.take_add_one, List.getElem?_eq_getElem this]
 rfl
theorem hash_any (s : ByteArray) (w : World) (hs : s.size ≤ 1000) : Gives Tryz.prog 78 #[.string s] w (u64V (hashK s)) := by
 unfold Gives
 go_enter Tryz.func78, Tryz.ntmps78
 go_wp2_with fail
 go_loopw [3, 7] (fun h i wr => ∃ k : Nat, k ≤ s.size ∧ i = .int .i64 k ∧ h = .int .u64 ((rawH (s.data.toList.take k)).toNat : Int) ∧ wr = w) (fun _ i _ => s.size - (intOf i).toNat)
 case atStart => exact ⟨0, by omega, rfl, by simp [rawH], rfl⟩
 case round =>
  obtain ⟨k, hk, rfl, rfl, rfl⟩ := hrel
  obtain ⟨h, hh⟩ : ∃ h, rawH (s.data.toList.take k) = h := ⟨_, rfl⟩
  rw [hh]
  have HH := Lib.hid hh
  clear hh
  by_cases hkl : k < s.size
  ·go_wp2_with fail
   go_roundw
   case rel => exact ⟨k + 1, by omega, by go_num, by rw [take_snoc hkl, rawH_snoc, HH.out, step_u64], trivial⟩
   case measure => simp [intOf]; omega
  ·obtain rfl : k = s.size := by omega
   go_wp2_with fail
   go_ret
   refine ⟨?_, Later.ex (Below.refl _ _)⟩
   have e : hashK s = mixH h := by rw [hashK, ← HH.out, List.take_of_length_le (by simp)]
   rw [e, u64V, ← mix_u64]
   rfl
theorem of_any (s : ByteArray) (w : World) (hs : s.size ≤ 1000) : Gives Tryz.prog 36 #[.string s] w (.int .i64 (ofK s)) := by
 unfold Gives
 cases hm : mayK s with
 | true =>
  have HO : Hid (ofK s = ((hashK s).toNat : Int) % 16) := Lib.hid (by simp [ofK, hm])
  go_enter Tryz.func36, Tryz.ntmps36
  go_wp2_with fail
  refine (may_any s _).mono' fun x => ?_
  rw [hm]
  go_wp2_with fail
  refine (hash_any s _ hs).on fun y => ?_
  unfold u64V
  go_wp2_with fail
  go_ret
  exact ⟨by rw [HO.out]; rfl, ⟨y, rfl⟩⟩
 | false =>
  have HO : Hid (ofK s = -1) := Lib.hid (by simp [ofK, hm])
  go_enter Tryz.func36, Tryz.ntmps36
  go_wp2_with fail
  refine (may_any s _).mono' fun x => ?_
  rw [hm]
  go_wp2_with fail
  go_ret
  exact ⟨by rw [HO.out]; rfl, ⟨x, rfl⟩⟩
end
end Go.Proofs.YtcchkkdbagpgjaaGreat
