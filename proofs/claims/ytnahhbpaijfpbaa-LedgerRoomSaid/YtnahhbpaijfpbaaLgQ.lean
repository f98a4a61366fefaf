/- Ledgers: LedgerRoom. -/
import Derived.Test.YtnahhbpaijfpbaaLgY
namespace Go.Proofs.Ytnahhbpaijfpbaa
open Go Go.RowKit Go.BigFrame

def modN (x : Int) : Nat := ((IntKind.u64.wrap x).tmod 60).toNat
theorem modN_range (x : Int) : 0 ≤ (IntKind.u64.wrap x).tmod 60 ∧ (IntKind.u64.wrap x).tmod 60 < 60 := by
  have h : 0 ≤ IntKind.u64.wrap x := by
    unfold IntKind.wrap
    simp [IntKind.signed, IntKind.bits]
    omega
  rw [Int.tmod_eq_emod_of_nonneg h]
  omega
theorem modN_lt (x : Int) : modN x < 60 := by
  have := modN_range x
  unfold modN
  omega
theorem modN_eq {x : Int} {w : Nat} (h : modN x = w) : wrap64 ((IntKind.u64.wrap x).tmod 60) = (w : Int) := by
  have h1 := modN_range x
  unfold modN at h
  have h2 : (IntKind.u64.wrap x).tmod 60 = (w : Int) := by omega
  rw [h2]
  unfold wrap64
  omega
def rL (k : Nat) : List Dd := (List.range k).map fun i : Nat => incD (i : Int)
theorem rL_len (k : Nat) : (rL k).length = k := by simp [rL]
theorem rL_succ (k : Nat) : rL (k + 1) = rL k ++ [incD (k : Int)] := by
  unfold rL
  rw [List.range_succ, List.map_append]
  rfl
def rS (m k : Nat) : Lg := ⟨m, if k ≤ m / 2 then 0 else m / 2 + 1, rL k⟩
def rW (m k : Nat) : Lg := ⟨m, if k ≤ m / 2 then 0 else m / 2 + 1, rL (k + 1)⟩
theorem rS_zero {m : Nat} (h : m < 60) : newL (m : Int) = rS m 0 := by
  unfold newL rS
  rw [if_pos (Nat.zero_le _), show (max 0 (min (m : Int) 3000)).toNat = m by omega]
  rfl
theorem rS_ok {m k : Nat} (h : m < 60) (hk : k ≤ m) : LgOk (rS m k) := ⟨by show m ≤ 3000; omega, by show (rL k).length ≤ m; rw [rL_len]; exact hk, by show (if k ≤ m / 2 then 0 else m / 2 + 1) ≤ (rL k).length; rw [rL_len]; split <;> omega, fun d hd => by
  obtain ⟨i, hi, rfl⟩ := List.mem_map.1 hd
  have := List.mem_range.1 hi
  exact inc_may (by omega)⟩
theorem r_write {m k : Nat} (h : m < 60) (hk : k < m) : writeL (rS m k) (incD (k : Int)) = (rW m k, 0) := by
  rw [write_ok (inc_may (by omega)) (show ¬ m ≤ (rL k).length by rw [rL_len]; omega)]
  unfold rW
  rw [rL_succ]
  rfl
theorem rW_ok {m k : Nat} (h : m < 60) (hk : k < m) : LgOk (rW m k) := by
  have := (rS_ok h (Nat.le_of_lt hk)).write (incD (k : Int))
  rwa [r_write h hk] at this
theorem r_sync {m k : Nat} (hk : k = m / 2) : syncL (rW m k) = (rS m (k + 1), (k : Int) + 1) := by
  unfold syncL rW rS
  dsimp only
  rw [rL_len, if_pos (by omega), if_neg (by omega), hk]
  congr 1
theorem r_no {m k : Nat} (hk : k ≠ m / 2) : rW m k = rS m (k + 1) := by
  unfold rW rS
  by_cases h : k ≤ m / 2
  · rw [if_pos h, if_pos (by omega)]
  · rw [if_neg h, if_neg (by omega)]
theorem r_full (m : Nat) : writeL (rS m m) (incD 0) = (rS m m, 5) := write_full (inc_may (by decide)) (by show m ≤ (rL m).length; rw [rL_len]; exact Nat.le_refl _)
theorem r_room (m k : Nat) : ((rS m k).room : Int) - ((rS m k).l.length : Int) = (m : Int) - (k : Int) := by
  show (m : Int) - ((rL k).length : Int) = _
  rw [rL_len]
theorem r_crash {m : Nat} (h : m < 60) (stay : Int) : ∃ (S : Lg) (kp : Nat), (crashL (rS m m) stay) = (S, (m : Int) - (kp : Int)) ∧ LgOk S ∧ S.room = m ∧ S.l.length = kp ∧ S.sure = kp ∧ kp ≤ m ∧ (rS m m).sure ≤ kp ∧ kp = keepL (rS m m) stay := by
  have hk := keep_le (rS_ok h (Nat.le_refl m)) stay
  have hl : (rS m m).l.length = m := rL_len m
  rw [hl] at hk
  refine ⟨(crashL (rS m m) stay).1, keepL (rS m m) stay, ?_, (rS_ok h (Nat.le_refl m)).crash stay, rfl, ?_, rfl, hk.2, hk.1, rfl⟩
  · refine Prod.ext rfl ?_
    show ((rS m m).l.length : Int) - _ = _
    rw [hl]
  · show ((rS m m).l.take _).length = _
    rw [List.length_take, hl]
    omega
set_option maxHeartbeats 4000000 in
set_option maxRecDepth 100000 in
theorem room_d (room stay : Int) : Does Try.prog 6 #[.int .i64 room, .int .i64 stay] [] (.bool true) [] := by
  intro w H hp
  have HM0 := Lib.hid (mem_refl hp)
  clear hp
  go_enter Try.func6, Try.ntmps6
  refine wp_seq ?_
  refine wp_region_N [(0, 1)] (by kernel_rfl) ?_
  refine wpS_this [0] rfl (by kernel_rfl) (by simp only [pickL, nthL, List.cons_append, List.nil_append]; rfl) ?_
  repeat (go_big_quiet_step (fail))
  refine wpQuiet_nil ?_
  refine wpS_nil ?_
  refine then_normal ?_
  refine wp_seq ?_
  obtain ⟨m, hmm'⟩ : ∃ x, modN room = x := ⟨_, rfl⟩
  have hm60 : m < 60 := by rw [← hmm']; exact modN_lt _
  have hmm := Lib.hid (modN_eq hmm')
  clear hmm'
  refine wp_region_N [(0, 1), (1, 1), (2, 1), (3, 1), (4, 1)] (by kernel_rfl) ?_
  refine wpS_this [0, 1, 2] rfl (by kernel_rfl) (by simp only [pickL, nthL, List.cons_append, List.nil_append]; rfl) ?_
  repeat (go_big_quiet_step (fail))
  refine wpQuiet_nil ?_
  refine wpS_this [3] rfl (by kernel_rfl) (by simp only [pickL, nthL, List.cons_append, List.nil_append]; rfl) ?_
  repeat (go_big_quiet_step (fail))
  refine wpQuiet_nil ?_
  rw [hmm.out]
  refine wpS_this [4] rfl (by kernel_rfl) (by simp only [pickL, nthL, List.cons_append, List.nil_append]; rfl) ?_
  repeat (go_big_quiet_step (fail))
  refine wpQuiet_nil ?_
  refine wpS_nil ?_
  refine then_normal ?_
  refine wp_seq ?_
  refine wp_region_N [(0, 1), (1, 3), (2, 1)] (by kernel_rfl) ?_
  refine wpS_this [0] rfl (by kernel_rfl) (by simp only [pickL, nthL, List.cons_append, List.nil_append]; rfl) ?_
  repeat (go_big_quiet_step (fail))
  refine wpQuiet_nil ?_
  refine wpS_doesU1 (i := 1) (d := some 15) (rem := []) rfl (by rfl) rfl Try.call10 (lnew_d (m : Int)) rfl HM0.out [] rfl covS_nil (fun _ => rfl) rfl ?_
  rintro u3 W2 hm1 -
  obtain ⟨d, rfl, hm1q⟩ := Mem.lgN hm1
  clear hm1
  rw [rS_zero hm60] at hm1q
  have HM4 := Lib.hid hm1q
  clear hm1q
  simp only [Act.put, List.setIfInBounds_toArray, List.set_cons_succ, List.set_cons_zero]
  refine wpS_this [2] rfl (by kernel_rfl) (by simp only [pickL, nthL, List.cons_append, List.nil_append]; rfl) ?_
  repeat (go_big_quiet_step (fail))
  refine wpQuiet_nil ?_
  refine wpS_nil ?_
  refine then_normal ?_
  refine wp_seq ?_
  refine wp_seq ?_
  have HR := Lib.hid (Mem.nilRow elemI HM4.out)
  refine wp_region_N [(0, 1), (1, 1)] (by kernel_rfl) ?_
  refine wpS_this [0, 1] rfl (by kernel_rfl) (by simp only [pickL, nthL, List.cons_append, List.nil_append]; rfl) ?_
  repeat (go_big_quiet_step (fail))
  refine wpQuiet_nil ?_
  refine wpS_nil ?_
  refine then_normal ?_
  refine wp_block ?_
  refine wp_loop_F [4, 6, 17, 18, 19, 20, 21, 22, 23, 24, 25, 26, 27, 28, 29, 30, 31, 32, 33, 34, 35, 36, 37, 38, 39, 40, 41, 42, 43, 44] (fun n vs W' => ∃ k : Nat, n = m - k ∧ vs 17 = .int .i64 (k : Int) ∧ k ≤ m ∧ Mem [lgT d (rS m k), rowT elemI (.slice none 0 0) []] H w W') (n0 := m) ?_ ?_
  · exact ⟨0, rfl, rfl, Nat.zero_le _, (Mem.only (M := [_, _]) HR.out [1, 0] rfl)⟩
  rintro n vs W' ⟨k, rfl, e17, hk, hm⟩
  simp only [putAll, List.map_cons, List.map_nil, Act.put, List.setIfInBounds_toArray, List.set_cons_succ, List.set_cons_zero]
  rw [e17]
  clear e17
  have HM5 := Lib.hid hm
  clear hm
  refine wp_seq ?_
  refine wp_region_N [(0, 1)] (by kernel_rfl) ?_
  refine wpS_this [0] rfl (by kernel_rfl) (by simp only [pickL, nthL, List.cons_append, List.nil_append]; rfl) ?_
  repeat (go_big_quiet_step (fail))
  refine wpQuiet_nil ?_
  refine wpS_nil ?_
  refine then_normal ?_
  refine wp_seq ?_
  refine wp_cond_split rfl (fun h6 => ?_) (fun h6 => ?_)
  · have hk1 : k + 1 ≤ m := by have : (k : Int) < m := (by simpa using h6); omega
    clear h6
    refine wp_skip ?_
    refine then_normal ?_
    refine wp_seq ?_
    refine wp_block ?_
    refine wp_seq ?_
    refine wp_region_N [(0, 1), (1, 1)] (by kernel_rfl) ?_
    refine wpS_this [0, 1] rfl (by kernel_rfl) (by simp only [pickL, nthL, List.cons_append, List.nil_append]; rfl) ?_
    repeat (go_big_quiet_step (fail))
    refine wpQuiet_nil ?_
    refine wpS_nil ?_
    refine then_normal ?_
    refine wp_seq ?_
    refine wp_seq ?_
    have hro := Lib.hid (r_room m k)
    have hwr := Lib.hid (r_write hm60 hk1)
    have gr : (((m : Int) - (k : Int)) != ((m : Int) - (k : Int))) = false := bne_self_eq_false _
    refine wp_region_N [(0, 1), (1, 3), (2, 1), (3, 1), (4, 1), (5, 1), (6, 1), (7, 1), (8, 1), (9, 1), (10, 3), (11, 1), (12, 1)] (by kernel_rfl) ?_
    refine wpS_this [0] rfl (by kernel_rfl) (by simp only [pickL, nthL, List.cons_append, List.nil_append]; rfl) ?_
    repeat (go_big_quiet_step (fail))
    refine wpQuiet_nil ?_
    refine wpS_does1 (i := 1) (d := some 21) (rem := [_]) (out := [_, _]) rfl (by rfl) rfl Try.call24 (lroom_d d (rS m k) (rS_ok hm60 hk)) rfl HM5.out [0] rfl covS_nil rfl rfl ?_
    rintro W8 hm7 -
    rw [hro.out]
    have HM9 := Lib.hid hm7
    clear hm7
    simp only [Act.put, List.setIfInBounds_toArray, List.set_cons_succ, List.set_cons_zero]
    refine wpS_this [2, 3, 4, 5, 6, 7, 8] rfl (by kernel_rfl) (by simp only [pickL, nthL, List.cons_append, List.nil_append]; rfl) ?_
    repeat (go_big_quiet_step (fail))
    refine wpQuiet_nil ?_
    refine wpS_read (i := 9) (d := some 29) (v := ddV (incD (k : Int)) (.slice none 0 0) (.slice none 0 0)) rfl (by rfl) (by kernel_rfl) rfl ?_
    simp only [Act.put, List.setIfInBounds_toArray, List.set_cons_succ, List.set_cons_zero]
    refine wpS_does2 (i := 10) (d := some 30) (rem := []) (out := [_, _]) rfl (by rfl) rfl Try.call20 (lwrite_d _ d (rS m k) (incD (k : Int)) _ _ (inc_r _ _) (rS_ok hm60 hk)) rfl rfl HM9.out [0, 0] rfl covS_nil rfl rfl ?_
    rintro W11 hm10 -
    rw [hwr.out] at hm10 ⊢
    have HM12 := Lib.hid hm10
    clear hm10
    simp only [Act.put, List.setIfInBounds_toArray, List.set_cons_succ, List.set_cons_zero]
    refine wpS_this [11, 12] rfl (by kernel_rfl) (by simp only [pickL, nthL, List.cons_append, List.nil_append]; rfl) ?_
    repeat (go_big_quiet_step (fail))
    refine wpQuiet_nil ?_
    refine wpS_nil ?_
    refine then_normal ?_
    refine wp_cond_false rfl ?_
    refine wp_skip ?_
    refine then_normal ?_
    refine wp_seq ?_
    obtain ⟨q, hq'⟩ : ∃ x, m / 2 = x := ⟨_, rfl⟩
    have hqi : Hid ((m : Int) / 2 = (q : Int)) := Lib.hid (by rw [← hq']; omega)
    have hq := Lib.hid hq'
    clear hq'
    by_cases hkq : k = m / 2
    · have g8 : ((k : Int) == (q : Int)) = true := beq_iff_eq.2 (by have := hq.out; omega)
      have g8' : (k == q) = true := beq_iff_eq.2 (by have := hq.out; omega)
      have hsy := Lib.hid (r_sync hkq)
      replace hkq := Lib.hid hkq
      refine wp_region_N [(0, 1), (1, 1), (2, 1), (3, 1), (4, 1), (5, 1), (6, 3), (7, 1), (8, 1), (9, 1), (10, 1)] (by kernel_rfl) ?_
      refine wpS_this [0, 1] rfl (by kernel_rfl) (by simp only [pickL, nthL, List.cons_append, List.nil_append]; rfl) ?_
      repeat (go_big_quiet_step (fail))
      refine wpQuiet_nil ?_
      refine wpS_this [2] rfl (by kernel_rfl) (by simp only [pickL, nthL, List.cons_append, List.nil_append]; rfl) ?_
      repeat (go_big_quiet_step (fail))
      refine wpQuiet_nil ?_
      rw [hqi.out]
      refine wpS_this [3, 4, 5] rfl (by kernel_rfl) (by simp only [pickL, nthL, List.cons_append, List.nil_append]; rfl) ?_
      repeat (go_big_quiet_step (fail))
      refine wpQuiet_nil ?_
      refine wpS_does1 (i := 6) (d := some 39) (rem := [_]) (out := [_, _]) rfl (by rfl) rfl Try.call16 (lsync_d d (rW m k) (rW_ok hm60 hk1)) rfl HM12.out [0] rfl covS_nil rfl rfl ?_
      rintro W14 hm13 -
      rw [hsy.out] at hm13 ⊢
      have HM15 := Lib.hid hm13
      clear hm13
      simp only [Act.put, List.setIfInBounds_toArray, List.set_cons_succ, List.set_cons_zero]
      refine wpS_this [7, 8, 9, 10] rfl (by kernel_rfl) (by simp only [pickL, nthL, List.cons_append, List.nil_append]; rfl) ?_
      repeat (go_big_quiet_step (fail))
      refine wpQuiet_nil ?_
      refine wpS_nil ?_
      refine then_normal ?_
      refine wp_cond_false rfl ?_
      refine wp_skip ?_
      refine block_normal ?_
      refine then_normal ?_
      refine wp_region_N [(0, 1), (1, 1)] (by kernel_rfl) ?_
      refine wpS_this [0, 1] rfl (by kernel_rfl) (by simp only [pickL, nthL, List.cons_append, List.nil_append]; rfl) ?_
      repeat (go_big_quiet_step (fail))
      refine wpQuiet_nil ?_
      refine wpS_nil ?_
      refine then_normal ?_
      refine ⟨by kernel_rfl, ?_⟩
      exact ⟨m - (k + 1), by omega, k + 1, rfl, rfl, hk1, (Mem.only (M := [_, _]) HM15.out [0, 0] rfl)⟩
    · have g8 : ((k : Int) == (q : Int)) = false := beq_eq_false_iff_ne.2 (by have := hq.out; omega)
      have g8' : (k == q) = false := beq_eq_false_iff_ne.2 (by have := hq.out; omega)
      rw [r_no hkq] at HM12
      replace hkq := Lib.hid hkq
      refine wp_region_N [(0, 1), (1, 1), (2, 1), (3, 1), (4, 1), (5, 1), (6, 3), (7, 1), (8, 1), (9, 1), (10, 1)] (by kernel_rfl) ?_
      refine wpS_this [0, 1] rfl (by kernel_rfl) (by simp only [pickL, nthL, List.cons_append, List.nil_append]; rfl) ?_
      repeat (go_big_quiet_step (fail))
      refine wpQuiet_nil ?_
      refine wpS_this [2] rfl (by kernel_rfl) (by simp only [pickL, nthL, List.cons_append, List.nil_append]; rfl) ?_
      repeat (go_big_quiet_step (fail))
      refine wpQuiet_nil ?_
      rw [hqi.out]
      refine wpS_this [3, 4, 5] rfl (by kernel_rfl) (by simp only [pickL, nthL, List.cons_append, List.nil_append]; rfl) ?_
      repeat (go_big_quiet_step (fail))
      refine wpQuiet_nil ?_
      refine wpS_skip (i := 6) (d := some 39) rfl (by rfl) rfl ?_
      simp only [Act.put, List.setIfInBounds_toArray, List.set_cons_succ, List.set_cons_zero]
      refine wpS_this [7, 8, 9, 10] rfl (by kernel_rfl) (by simp only [pickL, nthL, List.cons_append, List.nil_append]; rfl) ?_
      repeat (go_big_quiet_step (fail))
      refine wpQuiet_nil ?_
      refine wpS_nil ?_
      refine then_normal ?_
      refine wp_cond_false rfl ?_
      refine wp_skip ?_
      refine block_normal ?_
      refine then_normal ?_
      refine wp_region_N [(0, 1), (1, 1)] (by kernel_rfl) ?_
      refine wpS_this [0, 1] rfl (by kernel_rfl) (by simp only [pickL, nthL, List.cons_append, List.nil_append]; rfl) ?_
      repeat (go_big_quiet_step (fail))
      refine wpQuiet_nil ?_
      refine wpS_nil ?_
      refine then_normal ?_
      refine ⟨by kernel_rfl, ?_⟩
      exact ⟨m - (k + 1), by omega, k + 1, rfl, rfl, hk1, (Mem.only (M := [_, _]) HM12.out [0, 0] rfl)⟩
  · have hge : Hid (m ≤ k) := Lib.hid (by have : ¬ (k : Int) < m := (by simpa using h6); omega)
    clear h6
    refine wp_exit ?_
    refine then_exit (then_exit (block_exit ?_))
    refine then_normal ?_
    refine wp_seq ?_
    refine wp_seq ?_
    have hkm : k = m := by have := hge.out; omega
    rw [hkm] at HM5
    clear hkm
    have hfu := Lib.hid (r_full m)
    have hr0 : Hid (((rS m m).room : Int) - ((rS m m).l.length : Int) = 0) := Lib.hid (by rw [r_room]; omega)
    refine wp_region_N [(0, 1), (1, 1), (2, 3), (3, 1), (4, 1), (5, 1), (6, 3), (7, 1), (8, 1)] (by kernel_rfl) ?_
    refine wpS_this [0] rfl (by kernel_rfl) (by simp only [pickL, nthL, List.cons_append, List.nil_append]; rfl) ?_
    repeat (go_big_quiet_step (fail))
    refine wpQuiet_nil ?_
    refine wpS_read (i := 1) (d := some 46) (v := ddV (incD 0) (.slice none 0 0) (.slice none 0 0)) rfl (by rfl) (by kernel_rfl) rfl ?_
    simp only [Act.put, List.setIfInBounds_toArray, List.set_cons_succ, List.set_cons_zero]
    refine wpS_does2 (i := 2) (d := some 47) (rem := []) (out := [_, _]) rfl (by rfl) rfl Try.call20 (lwrite_d _ d (rS m m) (incD 0) _ _ (inc_r _ _) (rS_ok hm60 (Nat.le_refl m))) rfl rfl HM5.out [0, 0] rfl covS_nil rfl rfl ?_
    rintro W17 hm16 -
    rw [hfu.out] at hm16 ⊢
    have HM18 := Lib.hid hm16
    clear hm16
    simp only [Act.put, List.setIfInBounds_toArray, List.set_cons_succ, List.set_cons_zero]
    refine wpS_this [3, 4, 5] rfl (by kernel_rfl) (by simp only [pickL, nthL, List.cons_append, List.nil_append]; rfl) ?_
    repeat (go_big_quiet_step (fail))
    refine wpQuiet_nil ?_
    refine wpS_does1 (i := 6) (d := some 51) (rem := [_]) (out := [_, _]) rfl (by rfl) rfl Try.call24 (lroom_d d (rS m m) (rS_ok hm60 (Nat.le_refl m))) rfl HM18.out [0] rfl covS_nil rfl rfl ?_
    rintro W20 hm19 -
    rw [hr0.out]
    have HM21 := Lib.hid hm19
    clear hm19
    simp only [Act.put, List.setIfInBounds_toArray, List.set_cons_succ, List.set_cons_zero]
    refine wpS_this [7, 8] rfl (by kernel_rfl) (by simp only [pickL, nthL, List.cons_append, List.nil_append]; rfl) ?_
    repeat (go_big_quiet_step (fail))
    refine wpQuiet_nil ?_
    refine wpS_nil ?_
    refine then_normal ?_
    refine wp_cond_false rfl ?_
    refine wp_skip ?_
    refine then_normal ?_
    refine wp_seq ?_
    obtain ⟨s, hs'⟩ : ∃ x, (rS m m).sure = x := ⟨_, rfl⟩
    have hsu : Hid (((rS m m).sure : Int) = (s : Int)) := Lib.hid (by rw [hs'])
    obtain ⟨S3, kp, hcr', hok3', e1, e2, e3, hkm1, hkm2, ekp⟩ := r_crash hm60 stay
    have hok3 := Lib.hid hok3'
    have hcr := Lib.hid hcr'
    have hr3 : Hid ((S3.room : Int) - (S3.l.length : Int) = (m : Int) - (kp : Int)) := Lib.hid (by rw [e1, e2])
    have hl3 : Hid ((S3.l.length : Int) = (kp : Int)) := Lib.hid (by rw [e2])
    have hs3 : Hid ((S3.sure : Int) = (kp : Int)) := Lib.hid (by rw [e3])
    have hsm : s ≤ m := by rw [← hs']; omega
    have hwv : Hid ((m : Int) - (s : Int) - (if (0 : Int) < (if (m : Int) - (s : Int) < stay then (m : Int) - (s : Int) else stay) then (if (m : Int) - (s : Int) < stay then (m : Int) - (s : Int) else stay) else 0) = (m : Int) - (kp : Int)) := Lib.hid (by rw [ekp]; unfold keepL; rw [hs', show (rS m m).l.length = m from rL_len m]; split <;> split <;> omega)
    have gw : (((m : Int) - (kp : Int)) == ((m : Int) - (kp : Int))) = true := beq_self_eq_true _
    have gk : ((kp : Int) == (kp : Int)) = true := beq_self_eq_true _
    have gm : ((kp : Int) == (m : Int) - ((m : Int) - (kp : Int))) = true := beq_iff_eq.2 (by omega)
    clear hcr' hok3' e1 e2 e3 ekp hs'
    refine wp_region_N [(0, 1), (1, 3), (2, 1)] (by kernel_rfl) ?_
    refine wpS_this [0] rfl (by kernel_rfl) (by simp only [pickL, nthL, List.cons_append, List.nil_append]; rfl) ?_
    repeat (go_big_quiet_step (fail))
    refine wpQuiet_nil ?_
    refine wpS_does1 (i := 1) (d := some 55) (rem := [_]) (out := [_, _]) rfl (by rfl) rfl Try.call23 (lsure_d d (rS m m) (rS_ok hm60 (Nat.le_refl m))) rfl HM21.out [0] rfl covS_nil rfl rfl ?_
    rintro W23 hm22 -
    rw [hsu.out]
    have HM24 := Lib.hid hm22
    clear hm22
    simp only [Act.put, List.setIfInBounds_toArray, List.set_cons_succ, List.set_cons_zero]
    refine wpS_this [2] rfl (by kernel_rfl) (by simp only [pickL, nthL, List.cons_append, List.nil_append]; rfl) ?_
    repeat (go_big_quiet_step (fail))
    refine wpQuiet_nil ?_
    refine wpS_nil ?_
    refine then_normal ?_
    refine wp_seq ?_
    refine wp_region_N [(0, 1), (1, 1), (2, 3), (3, 1)] (by kernel_rfl) ?_
    refine wpS_this [0, 1] rfl (by kernel_rfl) (by simp only [pickL, nthL, List.cons_append, List.nil_append]; rfl) ?_
    repeat (go_big_quiet_step (fail))
    refine wpQuiet_nil ?_
    refine wpS_does2 (i := 2) (d := some 58) (rem := [_]) (out := [_, _]) rfl (by rfl) rfl Try.call18 (lcrash_d d (rS m m) (rS_ok hm60 (Nat.le_refl m)) stay) rfl rfl HM24.out [0] rfl covS_nil rfl rfl ?_
    rintro W26 hm25 -
    rw [hcr.out] at hm25 ⊢
    have HM27 := Lib.hid hm25
    clear hm25
    simp only [Act.put, List.setIfInBounds_toArray, List.set_cons_succ, List.set_cons_zero]
    refine wpS_this [3] rfl (by kernel_rfl) (by simp only [pickL, nthL, List.cons_append, List.nil_append]; rfl) ?_
    repeat (go_big_quiet_step (fail))
    refine wpQuiet_nil ?_
    refine wpS_nil ?_
    refine then_normal ?_
    refine wp_seq ?_
    refine wp_region_N [(0, 1), (1, 1), (2, 1), (3, 1), (4, 1), (5, 1), (6, 1), (7, 1), (8, 1), (9, 1), (10, 1)] (by kernel_rfl) ?_
    refine wpS_this [0, 1, 2, 3, 4, 5, 6, 7, 8] rfl (by kernel_rfl) (by simp only [pickL, nthL, List.cons_append, List.nil_append]; rfl) ?_
    repeat (go_big_quiet_step (fail))
    refine wpQuiet_nil ?_
    refine wpS_this [9] rfl (by kernel_rfl) (by simp only [pickL, nthL, List.cons_append, List.nil_append]; rfl) ?_
    repeat (go_big_quiet_step (fail))
    refine wpQuiet_nil ?_
    rw [hwv.out]
    refine wpS_this [10] rfl (by kernel_rfl) (by simp only [pickL, nthL, List.cons_append, List.nil_append]; rfl) ?_
    repeat (go_big_quiet_step (fail))
    refine wpQuiet_nil ?_
    refine wpS_nil ?_
    refine then_normal ?_
    refine wp_seq ?_
    refine wp_region_N [(0, 1), (1, 1), (2, 1), (3, 1), (4, 1), (5, 3), (6, 1), (7, 1), (8, 1), (9, 1), (10, 1), (11, 3), (12, 1), (13, 3), (14, 1), (15, 1), (16, 1), (17, 1), (18, 3), (19, 1), (20, 1), (21, 1), (22, 1), (23, 1), (24, 1), (25, 3), (26, 1), (27, 1)] (by kernel_rfl) ?_
    refine wpS_this [0, 1, 2, 3, 4] rfl (by kernel_rfl) (by simp only [pickL, nthL, List.cons_append, List.nil_append]; rfl) ?_
    repeat (go_big_quiet_step (fail))
    refine wpQuiet_nil ?_
    refine wpS_does1 (i := 5) (d := some 74) (rem := [_]) (out := [_, _]) rfl (by rfl) rfl Try.call24 (lroom_d d S3 hok3.out) rfl HM27.out [0] rfl covS_nil rfl rfl ?_
    rintro W29 hm28 -
    rw [hr3.out]
    have HM30 := Lib.hid hm28
    clear hm28
    simp only [Act.put, List.setIfInBounds_toArray, List.set_cons_succ, List.set_cons_zero]
    refine wpS_this [6, 7, 8, 9, 10] rfl (by kernel_rfl) (by simp only [pickL, nthL, List.cons_append, List.nil_append]; rfl) ?_
    repeat (go_big_quiet_step (fail))
    refine wpQuiet_nil ?_
    refine wpS_does1 (i := 11) (d := some 80) (rem := [_]) (out := [_, _]) rfl (by rfl) rfl Try.call22 (llen_d d S3 hok3.out) rfl HM30.out [0] rfl covS_nil rfl rfl ?_
    rintro W32 hm31 -
    rw [hl3.out]
    have HM33 := Lib.hid hm31
    clear hm31
    simp only [Act.put, List.setIfInBounds_toArray, List.set_cons_succ, List.set_cons_zero]
    refine wpS_this [12] rfl (by kernel_rfl) (by simp only [pickL, nthL, List.cons_append, List.nil_append]; rfl) ?_
    repeat (go_big_quiet_step (fail))
    refine wpQuiet_nil ?_
    refine wpS_does1 (i := 13) (d := some 82) (rem := [_]) (out := [_, _]) rfl (by rfl) rfl Try.call23 (lsure_d d S3 hok3.out) rfl HM33.out [0] rfl covS_nil rfl rfl ?_
    rintro W35 hm34 -
    rw [hs3.out]
    have HM36 := Lib.hid hm34
    clear hm34
    simp only [Act.put, List.setIfInBounds_toArray, List.set_cons_succ, List.set_cons_zero]
    refine wpS_this [14, 15, 16, 17] rfl (by kernel_rfl) (by simp only [pickL, nthL, List.cons_append, List.nil_append]; rfl) ?_
    repeat (go_big_quiet_step (fail))
    refine wpQuiet_nil ?_
    refine wpS_does1 (i := 18) (d := some 87) (rem := [_]) (out := [_, _]) rfl (by rfl) rfl Try.call22 (llen_d d S3 hok3.out) rfl HM36.out [0] rfl covS_nil rfl rfl ?_
    rintro W38 hm37 -
    rw [hl3.out]
    have HM39 := Lib.hid hm37
    clear hm37
    simp only [Act.put, List.setIfInBounds_toArray, List.set_cons_succ, List.set_cons_zero]
    refine wpS_this [19, 20, 21, 22, 23, 24] rfl (by kernel_rfl) (by simp only [pickL, nthL, List.cons_append, List.nil_append]; rfl) ?_
    repeat (go_big_quiet_step (fail))
    refine wpQuiet_nil ?_
    refine wpS_does0 (i := 25) (d := some 94) (rem := [_, _]) (out := [_, _]) rfl (by rfl) rfl Try.call9 (awake_d)  HM39.out [] rfl covS_nil rfl rfl ?_
    rintro W41 hm40 -
    have HM42 := Lib.hid hm40
    clear hm40
    simp only [Act.put, List.setIfInBounds_toArray, List.set_cons_succ, List.set_cons_zero]
    refine wpS_this [26, 27] rfl (by kernel_rfl) (by simp only [pickL, nthL, List.cons_append, List.nil_append]; rfl) ?_
    repeat (go_big_quiet_step (fail))
    refine wpQuiet_nil ?_
    refine wpS_nil ?_
    refine then_normal ?_
    refine wp_ret ?_
    refine bodyPost_ret (results_tmp rfl _ _ _) rfl ?_
    exact does_ret (Mem.only (M := []) HM42.out [] rfl) rfl rfl

end Go.Proofs.Ytnahhbpaijfpbaa
