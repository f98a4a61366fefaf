/- Spo: Spo. -/
import Derived.Test.YtcbnhakfijiioaaGreatPA
import Derived.Test.YtcbnhakfijiioaaGreatRows
import Derived.Laws.Bits64
import Derived.StillTailTactics
import Derived.RangeFuncBox
namespace Go.Proofs.YtcbnhakfijiioaaGreat
section
open Go Go.RowKit
def mayK (s : ByteArray) : Bool := decide (1 ≤ s.size ∧ s.size ≤ 32)
def stepH (h : BitVec 64) (b : UInt8) : BitVec 64 := (h ^^^ BitVec.ofNat 64 b.toNat) * 1099511628211#64
def rawH (l : List UInt8) : BitVec 64 := l.foldl stepH 14695981039346656037#64
def mixH (h : BitVec 64) : BitVec 64 := h ^^^ (h >>> 32)
def hashK (s : ByteArray) : BitVec 64 := mixH (rawH s.data.toList)
def u64V (h : BitVec 64) : Value := .int .u64 (h.toNat : Int)
def ofK (s : ByteArray) : Int := if mayK s = true then ((hashK s).toNat : Int) % 16 else -1
theorem xor_u64 (a b : BitVec 64) : bits .xor .u64 (a.toNat : Int) (b.toNat : Int) = ((a ^^^ b).toNat : Int) := by
 rw [bits_xor_u64_nat _ _ a.isLt b.isLt, BitVec.toNat_xor]
theorem byte_u64 (b : UInt8) : IntKind.u64.wrap (b.toNat : Int) = ((BitVec.ofNat 64 b.toNat).toNat : Int) := by
 rw [IntKind.wrap_u64, BitVec.toNat_ofNat]
 omega
theorem mul_u64 (a : BitVec 64) : IntKind.u64.wrap ((a.toNat : Int) * 1099511628211) = ((a * 1099511628211#64).toNat : Int) := by
 rw [IntKind.wrap_u64, BitVec.toNat_mul]
 simp only [BitVec.toNat_ofNat]
 omega
theorem step_u64 (h : BitVec 64) (b : UInt8) : IntKind.u64.wrap (bits .xor .u64 (h.toNat : Int) (IntKind.u64.wrap (b.toNat : Int)) * 1099511628211) = ((stepH h b).toNat : Int) := by
 rw [byte_u64, xor_u64, mul_u64]
 rfl
theorem shift_u64 (h : BitVec 64) : ((h.toNat : Int) / (4294967296 : Int)) = ((h >>> 32).toNat : Int) := by
 rw [BitVec.toNat_ushiftRight, Nat.shiftRight_eq_div_pow]
 omega
theorem mix_u64 (h : BitVec 64) : bits .xor .u64 (h.toNat : Int) ((h.toNat : Int) / (4294967296 : Int)) = ((mixH h).toNat : Int) := by
 rw [shift_u64, xor_u64]
 rfl
theorem rawH_snoc (l : List UInt8) (b : UInt8) : rawH (l ++ [b]) = stepH (rawH l) b := by
 simp [rawH]
theorem may_any (s : ByteArray) (w : World) : Gives Tryz.prog 52 #[.string s] w (.bool (mayK s)) := by
 unfold Gives
 have HM : Hid (mayK s = decide (1 ≤ s.size ∧ s.size ≤ 32)) := Lib.hid rfl
 rw [HM.out]
 go_enter Tryz.func52, Tryz.ntmps52
 go_wp2_with fail
 all_goals go_ret
 all_goals refine ⟨congrArg Ending.returned (congrArg Value.bool ?_), Later.ex (Below.refl _ _)⟩
 ·refine decide_eq_decide.2 ?_; omega
 ·have hf : ¬(1 ≤ s.size ∧ s.size ≤ 32) := by omega
  rw [← Bool.decide_and]
  exact (decide_eq_false hf).symm
theorem mayR_any (s : ByteArray) (w : World) : Gives Tryz.prog 57 #[.string s] w (.bool (mayK s)) := by
 unfold Gives
 have HM : Hid (mayK s = decide (1 ≤ s.size ∧ s.size ≤ 32)) := Lib.hid rfl
 rw [HM.out]
 go_enter Tryz.func57, Tryz.ntmps57
 go_wp2_with fail
 all_goals go_ret
 all_goals refine ⟨congrArg Ending.returned (congrArg Value.bool ?_), Later.ex (Below.refl _ _)⟩
 ·refine decide_eq_decide.2 ?_; omega
 ·have hf : ¬(1 ≤ s.size ∧ s.size ≤ 32) := by omega
  rw [← Bool.decide_and]
  exact (decide_eq_false hf).symm
theorem take_snoc {s : ByteArray} {k : Nat} (hk : k < s.size) : s.data.toList.take (k + 1) = s.data.toList.take k ++ [s[k]] := by
 have : k < s.data.toList.length := by simpa using hk
 rw [List.take_add_one, List.getElem?_eq_getElem this]
 rfl
theorem hash_any (s : ByteArray) (w : World) (hs : s.size ≤ 1000) : Gives Tryz.prog 62 #[.string s] w (u64V (hashK s)) := by
 unfold Gives
 go_enter Tryz.func62, Tryz.ntmps62
 go_wp2_with fail
 go_loopw [3, 7] (fun h i wr => ∃ k : Nat, k ≤ s.size ∧ i = .int .i64 k ∧ h = .int .u64 ((rawH (s.data.toList.take k)).toNat : Int) ∧ wr = w) (fun _ i _ => s.size - (intOf i).toNat)
 case atStart => exact ⟨0, by omega, rfl, by simp [rawH], rfl⟩
 case round =>
  obtain ⟨k, hk, rfl, rfl, rfl⟩ := hrel
  obtain ⟨h, hh⟩ : ∃ h, rawH (s.data.toList.take k) = h := ⟨_, rfl⟩
  rw [hh]
  have HH := Lib.hid hh
  clear hh
  by_cases hkl : k < s.size
  ·go_wp2_with fail
   go_roundw
   case rel => exact ⟨k + 1, by omega, by go_num, by rw [take_snoc hkl, rawH_snoc, HH.out, step_u64], trivial⟩
   case measure => simp [intOf]; omega
  ·obtain rfl : k = s.size := by omega
   go_wp2_with fail
   go_ret
   refine ⟨?_, Later.ex (Below.refl _ _)⟩
   have e : hashK s = mixH h := by rw [hashK, ← HH.out, List.take_of_length_le (by simp)]
   rw [e, u64V, ← mix_u64]
   rfl
theorem hashR_any (s : ByteArray) (w : World) (hs : s.size ≤ 1000) : Gives Tryz.prog 65 #[.string s] w (u64V (hashK s)) := by
 unfold Gives
 go_enter Tryz.func65, Tryz.ntmps65
 go_wp2_with fail
 go_loopw [3, 7] (fun h i wr => ∃ k : Nat, k ≤ s.size ∧ i = .int .i64 k ∧ h = .int .u64 ((rawH (s.data.toList.take k)).toNat : Int) ∧ wr = w) (fun _ i _ => s.size - (intOf i).toNat)
 case atStart => exact ⟨0, by omega, rfl, by simp [rawH], rfl⟩
 case round =>
  obtain ⟨k, hk, rfl, rfl, rfl⟩ := hrel
  obtain ⟨h, hh⟩ : ∃ h, rawH (s.data.toList.take k) = h := ⟨_, rfl⟩
  rw [hh]
  have HH := Lib.hid hh
  clear hh
  by_cases hkl : k < s.size
  ·go_wp2_with fail
   go_roundw
   case rel => exact ⟨k + 1, by omega, by go_num, by rw [take_snoc hkl, rawH_snoc, HH.out, step_u64], trivial⟩
   case measure => simp [intOf]; omega
  ·obtain rfl : k = s.size := by omega
   go_wp2_with fail
   go_ret
   refine ⟨?_, Later.ex (Below.refl _ _)⟩
   have e : hashK s = mixH h := by rw [hashK, ← HH.out, List.take_of_length_le (by simp)]
   rw [e, u64V, ← mix_u64]
   rfl
theorem of_any (s : ByteArray) (w : World) (hs : s.size ≤ 1000) : Gives Tryz.prog 28 #[.string s] w (.int .i64 (ofK s)) := by
 unfold Gives
 cases hm : mayK s with
 | true =>
  have HO : Hid (ofK s = ((hashK s).toNat : Int) % 16) := Lib.hid (by simp [ofK, hm])
  go_enter Tryz.func28, Tryz.ntmps28
  go_wp2_with fail
  refine (may_any s _).mono' fun x => ?_
  rw [hm]
  go_wp2_with fail
  refine (hash_any s _ hs).on fun y => ?_
  unfold u64V
  go_wp2_with fail
  go_ret
  exact ⟨by rw [HO.out]; rfl, ⟨y, rfl⟩⟩
 | false =>
  have HO : Hid (ofK s = -1) := Lib.hid (by simp [ofK, hm])
  go_enter Tryz.func28, Tryz.ntmps28
  go_wp2_with fail
  refine (may_any s _).mono' fun x => ?_
  rw [hm]
  go_wp2_with fail
  go_ret
  exact ⟨by rw [HO.out]; rfl, ⟨x, rfl⟩⟩
theorem ofR_any (s : ByteArray) (w : World) (hs : s.size ≤ 1000) : Gives Tryz.prog 31 #[.string s] w (.int .i64 (ofK s)) := by
 unfold Gives
 cases hm : mayK s with
 | true =>
  have HO : Hid (ofK s = ((hashK s).toNat : Int) % 16) := Lib.hid (by simp [ofK, hm])
  go_enter Tryz.func31, Tryz.ntmps31
  go_wp2_with fail
  refine (mayR_any s _).mono' fun x => ?_
  rw [hm]
  go_wp2_with fail
  refine (hashR_any s _ hs).on fun y => ?_
  unfold u64V
  go_wp2_with fail
  go_ret
  exact ⟨by rw [HO.out]; rfl, ⟨y, rfl⟩⟩
 | false =>
  have HO : Hid (ofK s = -1) := Lib.hid (by simp [ofK, hm])
  go_enter Tryz.func31, Tryz.ntmps31
  go_wp2_with fail
  refine (mayR_any s _).mono' fun x => ?_
  rw [hm]
  go_wp2_with fail
  go_ret
  exact ⟨by rw [HO.out]; rfl, ⟨x, rfl⟩⟩
end
end Go.Proofs.YtcbnhakfijiioaaGreat
