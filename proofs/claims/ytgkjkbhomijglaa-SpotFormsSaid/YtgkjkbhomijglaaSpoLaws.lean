/- The laws of package spot. -/
import Derived.Test.YtgkjkbhomijglaaSpo
import Derived.Laws.BytesArg
import Derived.Laws.Concat
import Derived.Deep.DeepCutAuto
namespace Go.Proofs.Ytgkjkbhomijglaa
open Go Go.RowKit

def oneB (c : UInt8) : ByteArray := ⟨#[c]⟩
theorem oneB_size (c : UInt8) : (oneB c).size = 1 := rfl
theorem snoc_size (s : ByteArray) (c : UInt8) : (s ++ oneB c).size = s.size + 1 := by rw [ByteArray.size_append, oneB_size]
theorem conv_byte (W : World) (c : UInt8) : (convert 27 9 (.slice (some ⟨W.heap.size, 0, none⟩) 1 1)).run Try.prog (W.alloc (Obj.cells #[.int .u8 (c.toNat : Int)] 5)) = .ok (.string (oneB c)) (W.alloc (Obj.cells #[.int .u8 (c.toNat : Int)] 5)) := by
  have h := run_convert_bytes_arg (P := Try.prog) (W.alloc (Obj.cells #[.int .u8 (c.toNat : Int)] 5)) 27 5 Try.underlying27 Try.underlying5 W.heap.size 0 1 1 [(c.toNat : Int)] rfl (by
    intro i hi
    obtain rfl : i = 0 := by omega
    simp) 9 Try.underlying9
  rw [h]
  congr 2
  simp [strOfNums, oneB]
theorem hashK_snoc (s : ByteArray) (c : UInt8) : hashK (s ++ oneB c) = mixH (stepH (rawH s.data.toList) c) := by
  unfold hashK
  rw [ByteArray.data_append, Array.toList_append, ← rawH_snoc]
  rfl
theorem awake_any (w : World) : Gives Try.prog 7 #[] w (.bool true) := by
  unfold Gives
  go_enter Try.func7, Try.ntmps7
  go_wp2_with fail
  refine (may_any _ _).mono' fun x1 => ?_
  rw [show mayK { data := #[97] } = true from rfl]
  go_wp2_with fail
  refine (may_any _ _).on fun x2 => ?_
  rw [show mayK { data := #[] } = false from rfl]
  go_wp2_with fail
  refine (of_any _ _ (by decide)).on fun x3 => ?_
  rw [show ofK { data := #[] } = -1 from rfl]
  go_wp2_with fail
  refine (hash_any _ _ (by decide)).on fun x4 => ?_
  go_wp2_with fail
  refine (hashR_any _ _ (by decide)).on fun x5 => ?_
  unfold u64V
  go_wp2_with fail
  go_ret
  exact ⟨rfl, ⟨x5, rfl⟩⟩
theorem formsLaw (s : ByteArray) (w : World) : Gives Try.prog 3 #[.string s] w (.bool true) := by
  unfold Gives
  by_cases hs : s.size ≤ 300
  · go_enter Try.func3, Try.ntmps3
    go_wp2_with fail
    refine (may_any _ _).mono' fun x1 => ?_
    go_wp2_with fail
    refine (mayR_any _ _).on fun x2 => ?_
    go_wp2_with fail
    refine (hash_any _ _ (by omega)).on fun x3 => ?_
    go_wp2_with fail
    refine (hashR_any _ _ (by omega)).on fun x4 => ?_
    unfold u64V
    go_wp2_with fail
    refine (of_any _ _ (by omega)).on fun x5 => ?_
    go_wp2_with fail
    refine (ofR_any _ _ (by omega)).on fun x6 => ?_
    go_wp2_with fail
    refine (awake_any _).on fun x7 => ?_
    go_wp2_with fail
    go_ret
    exact ⟨rfl, ⟨x7, rfl⟩⟩
  · go_enter Try.func3, Try.ntmps3
    go_wp2_with fail
    refine (awake_any _).mono' fun x => ?_
    go_wp2_with fail
    go_ret
    exact ⟨rfl, ⟨x, rfl⟩⟩
theorem stepsLaw (s : ByteArray) (c : UInt8) (w : World) : Gives Try.prog 5 #[.string s, .int .u8 (c.toNat : Int)] w (.bool true) := by
  unfold Gives
  by_cases hs : s.size ≤ 300
  · go_enter Try.func5, Try.ntmps5
    go_wp2_with fail
    refine (hash_any s _ (by omega)).mono' fun x => ?_
    unfold u64V
    have hc := conv_byte x.w c
    have hz : ¬ 9223372036854775807 < s.size + (oneB c).size := by rw [oneB_size]; omega
    have hS := Lib.hid (snoc_size s c)
    obtain ⟨r, hr⟩ : ∃ r, rawH s.data.toList = r := ⟨_, rfl⟩
    have hr' : hashK s = mixH r := by rw [hashK, hr]
    obtain ⟨q, hq⟩ : ∃ q, stepH r c = q := ⟨_, rfl⟩
    have HQ : Hid (hashK (s ++ oneB c) = mixH q) := Lib.hid (by rw [hashK_snoc, hr, hq])
    have e1 : bits .xor .u64 ((mixH r).toNat : Int) (((mixH r).toNat : Int) / (4294967296 : Int)) = (r.toNat : Int) := by rw [mix_u64, mix_mix]
    have e2 : IntKind.u64.wrap (bits .xor .u64 (r.toNat : Int) (IntKind.u64.wrap (c.toNat : Int)) * 1099511628211) = (q.toNat : Int) := by rw [step_u64, hq]
    have e3 := mix_u64 q
    rw [hr']
    clear hr hr' hq
    go_wp2_with fail
    refine (hash_any _ _ (by rw [hS.out]; omega)).mono' fun y => ?_
    rw [HQ.out]
    unfold u64V
    go_wp2_with fail
    refine (awake_any _).on fun z => ?_
    go_wp2_with fail
    go_ret
    exact ⟨rfl, Later.ex (ext_later (ext_alloc (ext_later (ext_refl _) x) _) z)⟩
  · go_enter Try.func5, Try.ntmps5
    go_wp2_with fail
    refine (awake_any _).mono' fun x => ?_
    go_wp2_with fail
    go_ret
    exact ⟨rfl, ⟨x, rfl⟩⟩
theorem ofK_some {s : ByteArray} (h : mayK s = true) : 0 ≤ ofK s ∧ ofK s < 16 := by
  rw [ofK, if_pos h]
  omega
theorem boundsLaw (s : ByteArray) (c : UInt8) (w : World) : Gives Try.prog 4 #[.string s, .int .u8 (c.toNat : Int)] w (.bool true) := by
  unfold Gives
  by_cases hs : s.size ≤ 300
  · go_enter Try.func4, Try.ntmps4
    go_wp2_with fail
    refine (of_any s _ (by omega)).mono' fun x => ?_
    have hc := conv_byte x.w c
    have hz : ¬ 9223372036854775807 < s.size + (oneB c).size := by rw [oneB_size]; omega
    have hS := Lib.hid (snoc_size s c)
    go_wp2_with fail
    refine (of_any _ _ (by rw [hS.out]; omega)).mono' fun y => ?_
    clear hz
    go_wp2_with fail
    refine (may_any s _).on fun z => ?_
    have L0 : ∃ u : Later w, z.w = u.w := Later.ex (ext_later (ext_alloc (ext_later (ext_refl _) x) _) z)
    obtain ⟨u, hu⟩ := L0
    rw [hu]
    clear hc hu z y
    cases hm : mayK s with
    | false =>
      have ho : ofK s = -1 := by simp [ofK, hm]
      rw [ho]
      have hsz : s.size = 0 ∨ 32 < s.size := by
        have := of_decide_eq_false hm
        omega
      clear hm ho
      rcases hsz with h0 | h0
      · rw [h0]
        go_wp2_with fail
        refine (awake_any _).on fun v => ?_
        go_wp2_with fail
        go_ret
        exact ⟨rfl, ⟨v, rfl⟩⟩
      · have e0 : ((s.size : Int) == 0) = false := beq_eq_false_iff_ne.2 (by omega)
        have e1 : decide ((32 : Int) < (s.size : Int)) = true := decide_eq_true (by omega)
        go_wp2_with fail
        refine (awake_any _).on fun v => ?_
        go_wp2_with fail
        go_ret
        exact ⟨rfl, ⟨v, rfl⟩⟩
    | true =>
      obtain ⟨h0, h1⟩ := ofK_some hm
      have ho : ofK s = ((hashK s).toNat : Int) % 16 := by rw [ofK, if_pos hm]
      have HO := Lib.hid ho
      clear ho hm
      obtain ⟨p, hp⟩ : ∃ p, ofK s = p := ⟨_, rfl⟩
      have HP := Lib.hid hp
      rw [hp] at h0 h1 ⊢
      rw [hp] at HO
      clear hp
      go_wp2_with fail
      refine (of_any s _ (by omega)).on fun v => ?_
      rw [HP.out]
      go_wp2_with fail
      refine (hash_any s _ (by omega)).on fun v' => ?_
      unfold u64V
      have ho := HO.out
      go_wp2_with fail
      refine (awake_any _).on fun v'' => ?_
      go_wp2_with fail
      go_ret
      exact ⟨rfl, ⟨v'', rfl⟩⟩
  · go_enter Try.func4, Try.ntmps4
    go_wp2_with fail
    refine (awake_any _).mono' fun x => ?_
    go_wp2_with fail
    go_ret
    exact ⟨rfl, ⟨x, rfl⟩⟩
def repB (c : UInt8) : Nat → ByteArray
  | 0 => ⟨#[]⟩
  | n + 1 => repB c n ++ oneB c
theorem repB_size (c : UInt8) : ∀ n, (repB c n).size = n
  | 0 => rfl
  | n + 1 => by rw [repB, snoc_size, repB_size c n]
theorem may_rep (c : UInt8) (n : Nat) : mayK (repB c n) = decide (1 ≤ (n : Int) ∧ (n : Int) ≤ 32) := by
  unfold mayK
  rw [repB_size]
  apply decide_eq_decide.2
  omega
theorem fifty (n : Int) : ∃ N : Nat, N < 50 ∧ wrap64 ((IntKind.u64.wrap n).tmod 50) = (N : Int) := by
  rw [IntKind.wrap_u64]
  have h0 := Int.emod_nonneg n (show (18446744073709551616 : Int) ≠ 0 by decide)
  obtain ⟨x, hx⟩ : ∃ x, n % 18446744073709551616 = x := ⟨_, rfl⟩
  rw [hx] at h0 ⊢
  rw [Int.tmod_eq_emod_of_nonneg h0]
  refine ⟨(x % 50).toNat, by omega, ?_⟩
  unfold wrap64
  omega
theorem rep_hash (c : UInt8) (n : Nat) (b : Bool) (h1 : mayK (repB c n) = b) : (b = true → 0 ≤ ofK (repB c n)) ∧ (b = false → ofK (repB c n) = -1) := by
  subst h1
  exact ⟨fun h => (ofK_some h).1, fun h => by rw [ofK, h]; rfl⟩

def LenEnd (w : World) (e : Ending) (w' : World) : Prop := e = .returned (.bool true) ∧ ∃ x : Later w, w' = x.w
set_option maxHeartbeats 1000000 in
theorem lengthsLaw (c : UInt8) (n m : Int) (w : World) : Gives Try.prog 6 #[.int .u8 (c.toNat : Int), .int .i64 n, .int .i64 m] w (.bool true) := by
  show Calls _ _ _ _ (LenEnd w)
  obtain ⟨N, hN, eN⟩ := fifty n
  obtain ⟨M, hM, eM⟩ := fifty m
  go_enter Try.func6, Try.ntmps6
  go_upto_region 3 with fail
  rw [eN, eM]
  clear eN eM
  go_upto_region 4 with fail
  go_loopw [7, 19] (fun s i wr => ∃ k : Nat, k ≤ N ∧ i = .int .i64 k ∧ s = .string (repB c k) ∧ ∃ x : Later w, wr = x.w) (fun _ i _ => N - (intOf i).toNat)
  case atStart => exact ⟨0, by omega, rfl, rfl, ⟨w, Below.refl _ _⟩, rfl⟩
  case round =>
    obtain ⟨k, hk, rfl, rfl, x, rfl⟩ := hrel
    by_cases hkl : k < N
    · have hc := conv_byte x.w c
      have hz : ¬ 9223372036854775807 < (repB c k).size + (oneB c).size := by rw [oneB_size, repB_size]; omega
      go_wp2_with fail
      go_roundw
      case rel => exact ⟨k + 1, by omega, by go_num, rfl, Later.ex (ext_alloc x.below _)⟩
      case measure => simp [intOf]; omega
    · obtain rfl : k = N := by omega
      go_wp2_with fail
      go_loopw [8, 28] (fun s i wr => ∃ k : Nat, k ≤ M ∧ i = .int .i64 k ∧ s = .string (repB c k) ∧ ∃ x : Later w, wr = x.w) (fun _ i _ => M - (intOf i).toNat)
      case atStart => exact ⟨0, by omega, rfl, rfl, x, rfl⟩
      case round =>
        obtain ⟨l, hl, rfl, rfl, y, rfl⟩ := hrel
        by_cases hll : l < M
        · have hc := conv_byte y.w c
          have hz : ¬ 9223372036854775807 < (repB c l).size + (oneB c).size := by rw [oneB_size, repB_size]; omega
          go_wp2_with fail
          go_roundw
          case rel => exact ⟨l + 1, by omega, by go_num, rfl, Later.ex (ext_alloc y.below _)⟩
          case measure => simp [intOf]; omega
        · obtain rfl : l = M := by omega
          have HK := Lib.hid (repB_size c k)
          have HL := Lib.hid (repB_size c l)
          have HE : Hid (k = l → repB c k = repB c l) := Lib.hid fun h => by rw [h]
          obtain ⟨A, hA⟩ : ∃ A, repB c k = A := ⟨_, rfl⟩
          obtain ⟨B, hB⟩ : ∃ B, repB c l = B := ⟨_, rfl⟩
          have hm := may_rep c k
          have hr := rep_hash c k _ rfl
          rw [hA, hB] at HE
          rw [hB] at HL
          rw [hA] at HK hm hr
          rw [hA, hB]
          clear hA hB hll hkl
          by_cases hk1 : 1 ≤ k
          · by_cases hk2 : k ≤ 32
            · rw [decide_eq_true (by omega)] at hm
              have h0 := hr.1 hm
              obtain ⟨p, hp⟩ : ∃ p, ofK A = p := ⟨_, rfl⟩
              have HP := Lib.hid hp
              have HM := Lib.hid hm
              rw [hp] at h0
              clear hr hm hp
              go_wp2_with fail
              refine (may_any _ _).on fun z1 => ?_
              rw [HM.out]
              go_wp2_with fail
              refine (of_any _ _ (by rw [HK.out]; omega)).on fun z2 => ?_
              rw [HP.out]
              by_cases hkl : k = l
              · have hAB := HE.out hkl
                subst hkl hAB
                clear HE
                go_wp2_with fail
                refine (hash_any _ _ (by rw [HK.out]; omega)).on fun z3 => ?_
                go_wp2_with fail
                refine (hash_any _ _ (by rw [HK.out]; omega)).on fun z4 => ?_
                unfold u64V
                go_wp2_with fail
                refine (awake_any _).on fun z5 => ?_
                go_wp2_with fail
                go_ret
                exact ⟨rfl, ⟨z5, rfl⟩⟩
              · have hne : ((k : Int) == (l : Int)) = false := beq_eq_false_iff_ne.2 (by omega)
                have hne2 : ((k : Int) != (l : Int)) = true := bne_iff_ne.2 (by omega)
                clear hkl HE
                go_wp2_with fail
                refine (awake_any _).on fun z5 => ?_
                go_wp2_with fail
                go_ret
                exact ⟨rfl, ⟨z5, rfl⟩⟩
            · have hd : decide ((k : Int) ≤ 32) = false := decide_eq_false (by omega)
              rw [decide_eq_false (by omega)] at hm
              have HP := Lib.hid (hr.2 hm)
              have HM := Lib.hid hm
              clear hr hm
              go_wp2_with fail
              refine (may_any _ _).on fun z1 => ?_
              rw [HM.out]
              go_wp2_with fail
              refine (of_any _ _ (by rw [HK.out]; omega)).on fun z2 => ?_
              rw [HP.out]
              by_cases hkl : k = l
              · have hAB := HE.out hkl
                subst hkl hAB
                clear HE
                go_wp2_with fail
                refine (hash_any _ _ (by rw [HK.out]; omega)).on fun z3 => ?_
                go_wp2_with fail
                refine (hash_any _ _ (by rw [HK.out]; omega)).on fun z4 => ?_
                unfold u64V
                go_wp2_with fail
                refine (awake_any _).on fun z5 => ?_
                go_wp2_with fail
                go_ret
                exact ⟨rfl, ⟨z5, rfl⟩⟩
              · have hne : ((k : Int) == (l : Int)) = false := beq_eq_false_iff_ne.2 (by omega)
                have hne2 : ((k : Int) != (l : Int)) = true := bne_iff_ne.2 (by omega)
                clear hkl HE
                go_wp2_with fail
                refine (awake_any _).on fun z5 => ?_
                go_wp2_with fail
                go_ret
                exact ⟨rfl, ⟨z5, rfl⟩⟩
          · rw [decide_eq_false (by omega)] at hm
            have HP := Lib.hid (hr.2 hm)
            have HM := Lib.hid hm
            clear hr hm
            go_wp2_with fail
            refine (may_any _ _).on fun z1 => ?_
            rw [HM.out]
            go_wp2_with fail
            refine (of_any _ _ (by rw [HK.out]; omega)).on fun z2 => ?_
            rw [HP.out]
            by_cases hkl : k = l
            · have hAB := HE.out hkl
              subst hkl hAB
              clear HE
              go_wp2_with fail
              refine (hash_any _ _ (by rw [HK.out]; omega)).on fun z3 => ?_
              go_wp2_with fail
              refine (hash_any _ _ (by rw [HK.out]; omega)).on fun z4 => ?_
              unfold u64V
              go_wp2_with fail
              refine (awake_any _).on fun z5 => ?_
              go_wp2_with fail
              go_ret
              exact ⟨rfl, ⟨z5, rfl⟩⟩
            · have hne : ((k : Int) == (l : Int)) = false := beq_eq_false_iff_ne.2 (by omega)
              have hne2 : ((k : Int) != (l : Int)) = true := bne_iff_ne.2 (by omega)
              clear hkl HE
              go_wp2_with fail
              refine (awake_any _).on fun z5 => ?_
              go_wp2_with fail
              go_ret
              exact ⟨rfl, ⟨z5, rfl⟩⟩
end Go.Proofs.Ytgkjkbhomijglaa
