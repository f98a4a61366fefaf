/- Bags: the landed bag's Texts. -/
import Derived.Test.YtneeidedadlioaaBgN
import Derived.Test.YtneeidedadlioaaSxSet
namespace Go.Proofs.Ytneeidedadlioaa
open Go Go.RowKit Go.BigFrame

theorem textsL_snoc (x : Vl) : ∀ (l : List Vl) (acc : List ByteArray), textsL (l ++ [x]) acc = if heldT (textsL l acc) x.2 = true then textsL l acc else textsL l acc ++ [x.2]
  | [], acc => by
    show textsL [x] acc = _
    unfold textsL
    rfl
  | y :: l, acc => by
    rw [List.cons_append]
    unfold textsL
    exact textsL_snoc x l _
theorem textsL_step {l : List Vl} {k : Nat} {x : Vl} (h : l[k]? = some x) : textsL (l.take (k + 1)) [] = if heldT (textsL (l.take k) []) x.2 = true then textsL (l.take k) [] else textsL (l.take k) [] ++ [x.2] := by
  rw [List.take_add_one, h]
  exact textsL_snoc x _ _
theorem textsL_le (l : List Vl) (k : Nat) : (textsL (l.take k) []).length ≤ l.length := by
  refine Nat.le_trans (textsL_len _ _) ?_
  rw [List.length_take, List.length_nil]
  omega
set_option maxHeartbeats 4000000 in
set_option maxRecDepth 100000 in
theorem btexts_d (R : At) (sa : Value) (a : Bg) (ha : Reads elemV R sa a.v) (la : a.v.length ≤ 4398046510976) (l : List ByteArray) (hx : textsL a.v [] = l) : DoesU Try.prog 19 #[bgV a.k sa] [R] (fun u => [textsT u l, R]) := by
  intro w H hp
  have HM0 := Lib.hid (mem_refl hp)
  clear hp
  obtain ⟨pa, ca, rfl⟩ := row_form (Mem.src HM0.out 0 rfl ha)
  go_enter Try.func19, Try.ntmps19
  refine wp_seq ?_
  refine wp_region_N [(0, 3), (1, 1)] (by kernel_rfl) ?_
  refine wpS_boxA (i := 0) (dd := 1) rfl (by rfl) rfl rfl HM0.out covS_nil rfl ?_
  rintro b3 W2 hm1 -
  have HM4 := Lib.hid hm1
  clear hm1
  simp only [Act.put, List.setIfInBounds_toArray, List.set_cons_succ, List.set_cons_zero]
  refine wpS_this [1] rfl (by kernel_rfl) (by simp only [pickL, nthL, List.cons_append, List.nil_append]; rfl) ?_
  repeat (go_big_quiet_step (fail))
  refine wpQuiet_nil ?_
  refine wpS_nil ?_
  refine then_normal ?_
  refine wp_seq ?_
  refine wp_region_N [(0, 1)] (by kernel_rfl) ?_
  refine wpS_this [0] rfl (by kernel_rfl) (by simp only [pickL, nthL, List.cons_append, List.nil_append]; rfl) ?_
  repeat (go_big_quiet_step (fail))
  refine wpQuiet_nil ?_
  refine wpS_nil ?_
  refine then_normal ?_
  refine wp_seq ?_
  refine wp_region_N [(0, 3), (1, 1)] (by kernel_rfl) ?_
  refine wpS_mkSet (i := 0) (dd := 9) rfl (by rfl) rfl HM4.out covS_nil rfl ?_
  rintro m0 W6 hm5 -
  have HM7 := Lib.hid hm5
  clear hm5
  simp only [Act.put, List.setIfInBounds_toArray, List.set_cons_succ, List.set_cons_zero]
  refine wpS_this [1] rfl (by kernel_rfl) (by simp only [pickL, nthL, List.cons_append, List.nil_append]; rfl) ?_
  repeat (go_big_quiet_step (fail))
  refine wpQuiet_nil ?_
  refine wpS_nil ?_
  refine then_normal ?_
  refine wp_seq ?_
  refine wp_seq ?_
  refine wp_region_N [(0, 1), (1, 1), (2, 1), (3, 1)] (by kernel_rfl) ?_
  refine wpS_this [0] rfl (by kernel_rfl) (by simp only [pickL, nthL, List.cons_append, List.nil_append]; rfl) ?_
  repeat (go_big_quiet_step (fail))
  refine wpQuiet_nil ?_
  refine wpS_load1 (i := 1) (d := some 11) (u := .slice pa a.v.length ca) rfl (by rfl) rfl rfl (HM7.out.part1 1 rfl bgC_sl) Try.underlying25 rfl rfl ?_
  simp only [Act.put, List.setIfInBounds_toArray, List.set_cons_succ, List.set_cons_zero]
  refine wpS_this [2, 3] rfl (by kernel_rfl) (by simp only [pickL, nthL, List.cons_append, List.nil_append]; rfl) ?_
  repeat (go_big_quiet_step (fail))
  refine wpQuiet_nil ?_
  refine wpS_nil ?_
  refine then_normal ?_
  refine wp_block ?_
  refine wp_loop_F [3, 6, 7, 8, 13, 14, 15, 16, 17, 18, 19, 20, 21, 22, 23, 24, 25, 26, 27, 28, 29, 30, 31, 32, 33, 34, 35] (fun n vs W' => ∃ (k : Nat) (pu : Option Addr) (cu : Nat), n = a.v.length - k ∧ vs 13 = .int .i64 (k : Int) ∧ vs 3 = .slice pu (textsL (a.v.take k) []).length cu ∧ k ≤ a.v.length ∧ Mem [rowT elemS (.slice pu (textsL (a.v.take k) []).length cu) (textsL (a.v.take k) []), setT m0 (textsL (a.v.take k) []), boxT b3 (.cells (bgC a.k (.slice pa a.v.length ca)).toArray 27 (0, 0)), R] H w W') (n0 := a.v.length) ?_ ?_
  · exact ⟨0, none, 0, rfl, rfl, rfl, Nat.zero_le _, Mem.nilRow elemS (Mem.only (M := [_, _, _]) HM7.out [0, 0, 0] rfl)⟩
  rintro n vs W' ⟨k, pu, cu, rfl, e13, e3, hk, hm⟩
  simp only [putAll, List.map_cons, List.map_nil, Act.put, List.setIfInBounds_toArray, List.set_cons_succ, List.set_cons_zero]
  rw [e13, e3]
  clear e13 e3
  have HM8 := Lib.hid hm
  clear hm
  refine wp_seq ?_
  refine wp_region_N [(0, 1)] (by kernel_rfl) ?_
  refine wpS_this [0] rfl (by kernel_rfl) (by simp only [pickL, nthL, List.cons_append, List.nil_append]; rfl) ?_
  repeat (go_big_quiet_step (fail))
  refine wpQuiet_nil ?_
  refine wpS_nil ?_
  refine then_normal ?_
  refine wp_seq ?_
  refine wp_cond_split rfl (fun h9 => ?_) (fun h9 => ?_)
  · have hk1 : k + 1 ≤ a.v.length := by have : (k : Int) < ((a.v.length : Nat) : Int) := (by simpa using h9); omega
    clear h9
    obtain ⟨y, hy'⟩ : ∃ y, a.v[k]? = some y := ⟨_, List.getElem?_eq_getElem (hk1)⟩
    have hy := Lib.hid hy'
    clear hy'
    refine wp_skip ?_
    refine then_normal ?_
    refine wp_seq ?_
    refine wp_block ?_
    refine wp_seq ?_
    refine wp_region_N [(0, 1), (1, 1), (2, 3), (3, 3)] (by kernel_rfl) ?_
    refine wpS_index (E := elemV) (i := 0) (d := some 15) rfl (by rfl) rfl rfl rfl (HM8.out.row 3 rfl (fun W H h => rowAt_src (ha W H h))) (hy.out) rfl ?_
    intro eb10 eo11 hc12
    simp only [Act.put, List.setIfInBounds_toArray, List.set_cons_succ, List.set_cons_zero]
    refine wpS_loadA (i := 1) (d := some 16) (cells := [.int .i64 y.1.1, .int .i64 y.1.2, .string y.2]) rfl (by rfl) rfl rfl hc12 Try.underlying41 rfl (by kernel_rfl) rfl ?_
    simp only [Act.put, List.setIfInBounds_toArray, List.set_cons_succ, List.set_cons_zero]
    refine wpS_alloc (i := 2) (dd := 6) (z := .agg #[.int .i64 0, .int .i64 0, .string ByteArray.empty]) (cs := #[.int .i64 0, .int .i64 0, .string ByteArray.empty]) rfl (by rfl) rfl (by kernel_rfl) rfl HM8.out covS_nil rfl ?_
    rintro b15 W14 hm13 -
    have HM16 := Lib.hid hm13
    clear hm13
    simp only [Act.put, List.setIfInBounds_toArray, List.set_cons_succ, List.set_cons_zero]
    refine wpS_storeA (i := 3) (L2 := [_, _, _, _]) (cs' := [.int .i64 y.1.1, .int .i64 y.1.2, .string y.2]) rfl (by rfl) rfl rfl rfl (by kernel_rfl) (by rfl) HM16.out 0 rfl rfl rfl rfl covS_nil rfl ?_
    rintro W18 hm17 -
    have HM19 := Lib.hid hm17
    clear hm17
    refine wpS_nil ?_
    refine then_normal ?_
    refine wp_seq ?_
    obtain ⟨c, hc'⟩ := bool_letter (heldT (textsL (a.v.take k) []) y.2)
    have hh : Hid (hasS (textsL (a.v.take k) []) y.2 = c) := Lib.hid hc'
    cases c
    · have hst : Hid (textsL (a.v.take (k + 1)) [] = (textsL (a.v.take k) []) ++ [y.2]) := Lib.hid (by rw [textsL_step hy.out, hc']; rfl)
      clear hc'
      refine wp_region_N [(0, 1), (1, 1), (2, 1), (3, 3), (4, 1), (5, 1), (6, 1), (7, 3), (8, 3), (9, 1)] (by kernel_rfl) ?_
      have Cb6 := Mem.cell HM19.out 0 rfl
      refine wpS_this [0, 1, 2] rfl (by kernel_rfl) (by simp only [pickL, nthL, List.cons_append, List.nil_append]; rfl) ?_
      repeat (go_big_quiet_step (fail))
      refine wpQuiet_nil ?_
      clear Cb6
      refine wpS_still (i := 3) (d := some 21) rfl (by rfl) (run_lookS Try.underlying68 Try.underlying9 (by kernel_rfl) (HM19.out.box 2 rfl) rfl rfl rfl) rfl ?_
      simp only [Act.put, List.setIfInBounds_toArray, List.set_cons_succ, List.set_cons_zero]
      rw [hh.out]
      refine wpS_this [4, 5, 6] rfl (by kernel_rfl) (by simp only [pickL, nthL, List.cons_append, List.nil_append]; rfl) ?_
      repeat (go_big_quiet_step (fail))
      refine wpQuiet_nil ?_
      refine wpS_alloc (i := 7) (dd := 7) (z := .agg #[]) (cs := #[]) rfl (by rfl) rfl (by kernel_rfl) rfl HM19.out covS_nil rfl ?_
      rintro b22 W21 hm20 -
      have HM23 := Lib.hid hm20
      clear hm20
      simp only [Act.put, List.setIfInBounds_toArray, List.set_cons_succ, List.set_cons_zero]
      refine wpS_storeA (i := 8) (L2 := [_, _, _, _, _]) (cs' := []) rfl (by rfl) rfl rfl rfl (by kernel_rfl) (by rfl) HM23.out 0 rfl rfl rfl rfl covS_nil rfl ?_
      rintro W25 hm24 -
      have HM26 := Lib.hid hm24
      clear hm24
      refine wpS_this [9] rfl (by kernel_rfl) (by simp only [pickL, nthL, List.cons_append, List.nil_append]; rfl) ?_
      repeat (go_big_quiet_step (fail))
      refine wpQuiet_nil ?_
      refine wpS_nil ?_
      refine then_normal ?_
      refine wp_seq ?_
      refine wp_region_N [(0, 1), (1, 1)] (by kernel_rfl) ?_
      refine wpS_this [0, 1] rfl (by kernel_rfl) (by simp only [pickL, nthL, List.cons_append, List.nil_append]; rfl) ?_
      repeat (go_big_quiet_step (fail))
      refine wpQuiet_nil ?_
      refine wpS_nil ?_
      refine then_normal ?_
      refine wp_cond_true rfl ?_
      refine wp_seq ?_
      refine wp_region_N [(0, 1), (1, 1), (2, 1), (3, 1), (4, 3)] (by kernel_rfl) ?_
      have Cb6 := Mem.cell HM26.out 1 rfl
      refine wpS_this [0, 1, 2, 3] rfl (by kernel_rfl) (by simp only [pickL, nthL, List.cons_append, List.nil_append]; rfl) ?_
      repeat (go_big_quiet_step (fail))
      refine wpQuiet_nil ?_
      clear Cb6
      refine wpS_putSet (L2 := [_, _, _, _, _]) (i := 4) Try.underlying68 Try.underlying9 rfl (by rfl) rfl rfl rfl rfl hh.out HM26.out 3 rfl rfl covS_nil rfl ?_
      rintro W28 hm27 -
      have HM29 := Lib.hid hm27
      clear hm27
      refine wpS_nil ?_
      refine then_normal ?_
      have htl : Hid ((textsL (a.v.take k) []).length ≤ a.v.length) := Lib.hid (textsL_le a.v k)
      refine wp_region_N [(0, 1), (1, 1), (2, 1), (3, 3), (4, 3), (5, 1)] (by kernel_rfl) ?_
      have Cb6 := Mem.cell HM29.out 2 rfl
      refine wpS_this [0, 1, 2] rfl (by kernel_rfl) (by simp only [pickL, nthL, List.cons_append, List.nil_append]; rfl) ?_
      repeat (go_big_quiet_step (fail))
      refine wpQuiet_nil ?_
      clear Cb6
      refine wpS_build1 elemS (i := 3) (dd := 33) (y := y.2) rfl (by rfl) rfl rfl rfl (by decide) HM29.out covS_nil rfl ?_
      rintro b32 W33 hm34 -
      have HM35 := Lib.hid hm34
      clear hm34
      simp only [Act.put, List.setIfInBounds_toArray, List.set_cons_succ, List.set_cons_zero]
      refine wpS_append (E := elemS) (i := 4) (d := some 34) (L2 := [_, _, _, _, _, _]) rfl (by rfl) rfl HM35.out 4 rfl rfl (HM35.out.src 0 rfl rowT_reads) rfl (by show (_ + 1) * 16 ≤ 140737488355328; have := htl.out; omega) rfl covS_nil rfl ?_
      rintro u38 W39 hm40 -
      have HM41 := Lib.hid hm40
      clear hm40
      simp only [Act.put, List.setIfInBounds_toArray, List.set_cons_succ, List.set_cons_zero]
      obtain ⟨up, uc, hup⟩ := row_form (Mem.src HM41.out 0 rfl rowT_reads)
      subst hup
      refine wpS_this [5] rfl (by kernel_rfl) (by simp only [pickL, nthL, List.cons_append, List.nil_append]; rfl) ?_
      repeat (go_big_quiet_step (fail))
      refine wpQuiet_nil ?_
      refine wpS_nil ?_
      refine block_normal ?_
      refine then_normal ?_
      refine wp_region_N [(0, 1), (1, 1)] (by kernel_rfl) ?_
      refine wpS_this [0, 1] rfl (by kernel_rfl) (by simp only [pickL, nthL, List.cons_append, List.nil_append]; rfl) ?_
      repeat (go_big_quiet_step (fail))
      refine wpQuiet_nil ?_
      refine wpS_nil ?_
      refine then_normal ?_
      refine ⟨by kernel_rfl, ?_⟩
      refine ⟨a.v.length - (k + 1), by omega, k + 1, up, uc, rfl, rfl, by rw [hst.out]; rfl, hk1, ?_⟩
      rw [hst.out]
      exact (Mem.only (M := [_, _, _, _]) HM41.out [0, 1, 3, 3] rfl)
    · have hst : Hid (textsL (a.v.take (k + 1)) [] = (textsL (a.v.take k) [])) := Lib.hid (by rw [textsL_step hy.out, hc']; rfl)
      clear hc'
      refine wp_region_N [(0, 1), (1, 1), (2, 1), (3, 3), (4, 1), (5, 1), (6, 1), (7, 3), (8, 3), (9, 1)] (by kernel_rfl) ?_
      have Cb6 := Mem.cell HM19.out 0 rfl
      refine wpS_this [0, 1, 2] rfl (by kernel_rfl) (by simp only [pickL, nthL, List.cons_append, List.nil_append]; rfl) ?_
      repeat (go_big_quiet_step (fail))
      refine wpQuiet_nil ?_
      clear Cb6
      refine wpS_still (i := 3) (d := some 21) rfl (by rfl) (run_lookS Try.underlying68 Try.underlying9 (by kernel_rfl) (HM19.out.box 2 rfl) rfl rfl rfl) rfl ?_
      simp only [Act.put, List.setIfInBounds_toArray, List.set_cons_succ, List.set_cons_zero]
      rw [hh.out]
      refine wpS_this [4, 5, 6] rfl (by kernel_rfl) (by simp only [pickL, nthL, List.cons_append, List.nil_append]; rfl) ?_
      repeat (go_big_quiet_step (fail))
      refine wpQuiet_nil ?_
      refine wpS_alloc (i := 7) (dd := 7) (z := .agg #[]) (cs := #[]) rfl (by rfl) rfl (by kernel_rfl) rfl HM19.out covS_nil rfl ?_
      rintro b44 W43 hm42 -
      have HM45 := Lib.hid hm42
      clear hm42
      simp only [Act.put, List.setIfInBounds_toArray, List.set_cons_succ, List.set_cons_zero]
      refine wpS_storeA (i := 8) (L2 := [_, _, _, _, _]) (cs' := []) rfl (by rfl) rfl rfl rfl (by kernel_rfl) (by rfl) HM45.out 0 rfl rfl rfl rfl covS_nil rfl ?_
      rintro W47 hm46 -
      have HM48 := Lib.hid hm46
      clear hm46
      refine wpS_this [9] rfl (by kernel_rfl) (by simp only [pickL, nthL, List.cons_append, List.nil_append]; rfl) ?_
      repeat (go_big_quiet_step (fail))
      refine wpQuiet_nil ?_
      refine wpS_nil ?_
      refine then_normal ?_
      refine wp_seq ?_
      refine wp_region_N [(0, 1), (1, 1)] (by kernel_rfl) ?_
      refine wpS_this [0, 1] rfl (by kernel_rfl) (by simp only [pickL, nthL, List.cons_append, List.nil_append]; rfl) ?_
      repeat (go_big_quiet_step (fail))
      refine wpQuiet_nil ?_
      refine wpS_nil ?_
      refine then_normal ?_
      refine wp_cond_false rfl ?_
      refine wp_skip ?_
      refine block_normal ?_
      refine then_normal ?_
      refine wp_region_N [(0, 1), (1, 1)] (by kernel_rfl) ?_
      refine wpS_this [0, 1] rfl (by kernel_rfl) (by simp only [pickL, nthL, List.cons_append, List.nil_append]; rfl) ?_
      repeat (go_big_quiet_step (fail))
      refine wpQuiet_nil ?_
      refine wpS_nil ?_
      refine then_normal ?_
      refine ⟨by kernel_rfl, ?_⟩
      refine ⟨a.v.length - (k + 1), by omega, k + 1, pu, cu, rfl, rfl, by rw [hst.out]; rfl, hk1, ?_⟩
      rw [hst.out]
      exact (Mem.only (M := [_, _, _, _]) HM48.out [2, 2, 2, 2] rfl)
  · have hge : Hid (a.v.length ≤ k) := Lib.hid (by have : ¬ (k : Int) < ((a.v.length : Nat) : Int) := (by simpa using h9); omega)
    clear h9
    refine wp_exit ?_
    refine then_exit (then_exit (block_exit ?_))
    refine then_normal ?_
    refine wp_seq ?_
    refine wp_region_N [(0, 1), (1, 1)] (by kernel_rfl) ?_
    refine wpS_this [0, 1] rfl (by kernel_rfl) (by simp only [pickL, nthL, List.cons_append, List.nil_append]; rfl) ?_
    repeat (go_big_quiet_step (fail))
    refine wpQuiet_nil ?_
    refine wpS_nil ?_
    refine then_normal ?_
    refine wp_ret ?_
    refine bodyPost_ret (results_tmp rfl _ _ _) rfl ?_
    rw [← hx, show textsL a.v [] = (textsL (a.v.take k) []) from by rw [List.take_of_length_le hge.out]]
    exact doesU_ret (post := fun u => [textsT u (textsL (a.v.take k) []), R]) (Mem.toTexts (Mem.only (M := [_, _]) HM8.out [0, 2] rfl)) rfl

end Go.Proofs.Ytneeidedadlioaa
