/- Functions over slices of ints: same, has, Node. -/
import Derived.Test.YtfhfhneclplklaaShufMath
namespace Go.Proofs.Ytfhfhneclplklaa
open Go Go.RowKit

set_option maxHeartbeats 1000000 in
set_option maxRecDepth 100000 in
theorem sameI_any (v u : Value) (l : List Int) (w : World) (hv : IntsAt w v l) (hu : IntsAt w u l) (hl : l.length ≤ 1000) : Gives Try.prog 10 #[v, u] w (.bool true) := by
  unfold Gives
  obtain ⟨p, cap, rfl, hp⟩ := hv.form
  obtain ⟨r, cap', rfl, hr⟩ := hu.form
  have HP := Lib.hid hp
  have HR := Lib.hid hr
  clear hv hu hp hr
  go_enter Try.func10, Try.ntmps10
  go_wp2_with fail
  go_loopw [13] (fun i wr => ∃ k : Nat, k ≤ l.length ∧ i = .int .i64 k ∧ ∃ x : Later w, wr = x.w) (fun i _ => l.length - (intOf i).toNat)
  case atStart => exact ⟨0, by omega, rfl, ⟨w, Below.refl _ _⟩, rfl⟩
  case round =>
    obtain ⟨k, hk, rfl, x, rfl⟩ := hrel
    by_cases hkl : k < l.length
    · obtain ⟨c, hkc⟩ : ∃ c, l[k]? = some c := ⟨_, List.getElem?_eq_getElem hkl⟩
      rcases HP.out with h0 | ⟨b, o, rfl, hlt, hc⟩
      · rw [h0] at hkl; simp at hkl
      rcases HR.out with h0 | ⟨b', o', rfl, hlt', hc'⟩
      · rw [h0] at hkl; simp at hkl
      have a0 := hc k _ hkc
      have c0 := hc' k _ hkc
      clear hc hc' hkc
      go_upto_region 6 with fail
      go_quiet (fail)
      go_wp2_with fail
      go_roundw
      case rel => exact ⟨k + 1, by omega, by go_num, Later.ex (ext_drewN x.below _)⟩
      case measure => simp [intOf]; omega
    · obtain rfl : k = l.length := by omega
      go_wp2_with fail
      go_ret
      exact ⟨rfl, Later.ex x.below⟩

theorem contains_take {l : List Int} {k : Nat} {n x : Int} (hk : l[k]? = some x) : (l.take (k + 1)).contains n = ((l.take k).contains n || (x == n)) := by
  rw [List.take_add_one, hk]
  rw [Bool.eq_iff_iff]
  simp only [List.contains_eq_mem, Option.toList_some, List.mem_append, List.mem_singleton, decide_eq_true_eq, Bool.or_eq_true, beq_iff_eq]
  constructor
  · rintro (h | h)
    · exact .inl h
    · exact .inr h.symm
  · rintro (h | h)
    · exact .inl h
    · exact .inr h.symm

set_option maxHeartbeats 1000000 in
set_option maxRecDepth 100000 in
theorem hasI_any (v : Value) (l : List Int) (n : Int) (w : World) (hv : IntsAt w v l) (hl : l.length ≤ 1000) : Gives Try.prog 27 #[v, .int .i64 n] w (.bool (l.contains n)) := by
  unfold Gives
  obtain ⟨p, cap, rfl, hp⟩ := hv.form
  have HP := Lib.hid hp
  obtain ⟨B, hB⟩ : ∃ B, l.contains n = B := ⟨_, rfl⟩
  have HB := Lib.hid hB
  rw [hB]
  clear hv hp hB
  go_enter Try.func27, Try.ntmps27
  go_wp2_with fail
  go_loopw [9] (fun i wr => ∃ k : Nat, k ≤ l.length ∧ i = .int .i64 k ∧ Hid ((l.take k).contains n = false) ∧ ∃ x : Later w, wr = x.w) (fun i _ => l.length - (intOf i).toNat)
  case atStart => exact ⟨0, by omega, rfl, Lib.hid (by simp), ⟨w, Below.refl _ _⟩, rfl⟩
  case round =>
    obtain ⟨k, hk, rfl, HN, x, rfl⟩ := hrel
    by_cases hkl : k < l.length
    · obtain ⟨c, hkc⟩ : ∃ c, l[k]? = some c := ⟨_, List.getElem?_eq_getElem hkl⟩
      rcases HP.out with h0 | ⟨b, o, rfl, hlt, hc⟩
      · rw [h0] at hkl; simp at hkl
      have a0 := hc k _ hkc
      have HK := Lib.hid hkc
      clear hc hkc
      cases hcn : ((c : Int) == n) with
      | true =>
        have HV : Hid (B = true) := Lib.hid (by
          rw [← HB.out, List.contains_eq_mem]
          obtain rfl : c = n := by simpa using hcn
          simpa using List.mem_of_getElem? HK.out)
        go_wp2_with fail
        go_ret
        exact ⟨by rw [HV.out]; rfl, Later.ex (by repeat (first | exact ext_refl _ | refine ext_later ?_ _ | refine ext_alloc ?_ _ | refine ext_drew ?_ | refine ext_drewN ?_ _))⟩
      | false =>
        go_wp2_with fail
        go_roundw
        case rel => exact ⟨k + 1, by omega, by go_num, Lib.hid (by rw [contains_take HK.out, HN.out, hcn]; rfl), x, rfl⟩
        case measure => simp [intOf]; omega
    · obtain rfl : k = l.length := by omega
      have HV : Hid (B = false) := Lib.hid (by have := HN.out; rw [List.take_length] at this; rw [← HB.out]; exact this)
      go_wp2_with fail
      go_ret
      exact ⟨by rw [HV.out]; rfl, Later.ex x.below⟩

def nodeI (n : Int) : Bool := decide (0 ≤ n ∧ n < 8)
set_option maxHeartbeats 400000 in
theorem nodeI_any (n : Int) (w : World) : Gives Try.prog 19 #[.int .i64 n] w (.bool (nodeI n)) := by
  unfold Gives
  by_cases q0 : 0 ≤ n <;> by_cases q1 : n < 8
  all_goals try (exfalso; omega)
  all_goals first | (have H : Hid (nodeI n = true) := Lib.hid (by simp [nodeI]; omega)) | (have H : Hid (nodeI n = false) := Lib.hid (by simp [nodeI]; omega))
  all_goals
    go_enter Try.func19, Try.ntmps19
    go_wp2
    all_goals go_ret
    all_goals exact ⟨by rw [H.out]; rfl, Later.ex (by repeat (first | exact ext_refl _ | refine ext_alloc ?_ _ | refine ext_later ?_ _ | refine ext_drew ?_ | refine ext_drewN ?_ _))⟩
end Go.Proofs.Ytfhfhneclplklaa
