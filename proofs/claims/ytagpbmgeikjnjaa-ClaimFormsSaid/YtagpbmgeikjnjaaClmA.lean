/- The reference's at and Moves. -/
import Derived.Test.YtagpbmgeikjnjaaClmMath
import Derived.Test.YtagpbmgeikjnjaaSxInts
import Derived.Test.YtagpbmgeikjnjaaSxCut
namespace Go.Proofs.Ytagpbmgeikjnjaa
open Go Go.RowKit Go.BigFrame

theorem atL_out {l : List Int} {k : Nat} (h : l.length ≤ k) : atL l k = -1 := by
  unfold atL
  rw [List.getD_eq_getElem?_getD, List.getElem?_eq_none h]
  rfl
def diffK (x y : List Int) (k : Nat) : Nat := (List.range k).countP fun p => atL x p != atL y p
theorem diffK_succ (x y : List Int) (k : Nat) : diffK x y (k + 1) = diffK x y k + (if (atL x k != atL y k) = true then 1 else 0) := by
  unfold diffK
  rw [List.range_succ, List.countP_append]
  simp [List.countP_cons]
theorem diffK_le (x y : List Int) (k : Nat) : diffK x y k ≤ k := by
  unfold diffK
  have := List.countP_le_length (p := fun p => atL x p != atL y p) (l := List.range k)
  rwa [List.length_range] at this
/-- Some objects as one. -/
def listT (l : List At) : At := ⟨stars l, stars_owns l⟩
theorem Does.ofList {pr : Program} {f : FuncId} {args : Array Value} {v : Value} {pre : List At} (h : Does pr f args [listT pre] v [listT pre]) : Does pr f args pre v pre := fun W H hs =>
  (h W H (star_comm (starl_emp hs))).mono fun _ _W' ⟨he, hr⟩ => ⟨he, hr.mono fun _ h => emp_right h⟩
theorem DoesU.ofList {pr : Program} {f : FuncId} {args : Array Value} {pre : List At} {q : Value → At} (h : DoesU pr f args [listT pre] fun u => [q u, listT pre]) : DoesU pr f args pre fun u => q u :: pre := fun W H hs =>
  (h W H (star_comm (starl_emp hs))).mono fun _ _W' ⟨u, he, hr⟩ => ⟨u, he, hr.mono fun _ h => star_mono (fun _ h => h) (fun _ h => emp_right h) h⟩
set_option maxHeartbeats 4000000 in
set_option maxRecDepth 100000 in
theorem rat_d (R : At) (v : Value) (l : List Int) (k : Nat) (hR : ∀ W H, R.p W H → RowAt elemI W v l) : Does Try.prog 25 #[v, .int .i64 (k : Int)] [R] (.int .i64 (atL l k)) [R] := by
  intro w H hp
  have HM0 := Lib.hid (mem_refl hp)
  clear hp
  obtain ⟨p, cap, rfl, -⟩ := (HM0.out.row 0 rfl hR).form
  go_enter Try.func25, Try.ntmps25
  refine wp_seq ?_
  refine wp_region_N [(0, 1)] (by kernel_rfl) ?_
  refine wpS_this [0] rfl (by kernel_rfl) (by simp only [pickL, nthL, List.cons_append, List.nil_append]; rfl) ?_
  repeat (go_big_quiet_step (fail))
  refine wpQuiet_nil ?_
  refine wpS_nil ?_
  refine then_normal ?_
  refine wp_seq ?_
  refine wp_seq ?_
  by_cases hk : k < l.length
  · obtain ⟨y, hy⟩ : ∃ y, l[k]? = some y := ⟨_, List.getElem?_eq_getElem hk⟩
    have hat : Hid (atL l k = y) := Lib.hid (atL_of hy)
    have g1 : decide ((k : Int) < (l.length : Int)) = true := decide_eq_true (by omega)
    refine wp_region_N [(0, 1), (1, 1), (2, 1), (3, 1)] (by kernel_rfl) ?_
    refine wpS_this [0, 1, 2, 3] rfl (by kernel_rfl) (by simp only [pickL, nthL, List.cons_append, List.nil_append]; rfl) ?_
    repeat (go_big_quiet_step (fail))
    refine wpQuiet_nil ?_
    refine wpS_nil ?_
    refine then_normal ?_
    refine wp_cond_true rfl ?_
    refine wp_seq ?_
    refine wp_region_N [(0, 1), (1, 1), (2, 1), (3, 1), (4, 1)] (by kernel_rfl) ?_
    refine wpS_this [0, 1] rfl (by kernel_rfl) (by simp only [pickL, nthL, List.cons_append, List.nil_append]; rfl) ?_
    repeat (go_big_quiet_step (fail))
    refine wpQuiet_nil ?_
    refine wpS_index (E := elemI) (i := 2) (d := some 11) rfl (by rfl) rfl rfl rfl (HM0.out.row 0 rfl hR) (hy) rfl ?_
    intro eb1 eo2 hc3
    simp only [Act.put, List.setIfInBounds_toArray, List.set_cons_succ, List.set_cons_zero]
    refine wpS_load1 (i := 3) (d := some 12) (u := .int .i64 y) rfl (by rfl) rfl rfl (hc3 0 _ rfl) Try.underlying3 rfl rfl ?_
    simp only [Act.put, List.setIfInBounds_toArray, List.set_cons_succ, List.set_cons_zero]
    refine wpS_this [4] rfl (by kernel_rfl) (by simp only [pickL, nthL, List.cons_append, List.nil_append]; rfl) ?_
    repeat (go_big_quiet_step (fail))
    refine wpQuiet_nil ?_
    refine wpS_nil ?_
    refine then_normal ?_
    refine wp_ret ?_
    refine then_ret ?_
    refine bodyPost_ret (results_tmp rfl _ _ _) rfl ?_
    rw [hat.out]
    exact does_ret (Mem.only (M := [_]) HM0.out [0] rfl) rfl rfl
  · have hat : Hid (atL l k = -1) := Lib.hid (atL_out (by omega))
    have g1 : decide ((k : Int) < (l.length : Int)) = false := decide_eq_false (by omega)
    refine wp_region_N [(0, 1), (1, 1), (2, 1), (3, 1)] (by kernel_rfl) ?_
    refine wpS_this [0, 1, 2, 3] rfl (by kernel_rfl) (by simp only [pickL, nthL, List.cons_append, List.nil_append]; rfl) ?_
    repeat (go_big_quiet_step (fail))
    refine wpQuiet_nil ?_
    refine wpS_nil ?_
    refine then_normal ?_
    refine wp_cond_false rfl ?_
    refine wp_skip ?_
    refine then_normal ?_
    refine wp_seq ?_
    refine wp_region_N [(0, 1)] (by kernel_rfl) ?_
    refine wpS_this [0] rfl (by kernel_rfl) (by simp only [pickL, nthL, List.cons_append, List.nil_append]; rfl) ?_
    repeat (go_big_quiet_step (fail))
    refine wpQuiet_nil ?_
    refine wpS_nil ?_
    refine then_normal ?_
    refine wp_ret ?_
    refine bodyPost_ret (results_tmp rfl _ _ _) rfl ?_
    rw [hat.out]
    exact does_ret (Mem.only (M := [_]) HM0.out [0] rfl) rfl rfl

set_option maxHeartbeats 4000000 in
set_option maxRecDepth 100000 in
theorem rmoves_d (R : At) (va vb : Value) (x y : List Int) (hA : ∀ W H, R.p W H → RowAt elemI W va x) (hB : ∀ W H, R.p W H → RowAt elemI W vb y) : Does Try.prog 20 #[va, vb] [R] (.int .i64 (movesOf x y : Int)) [R] := by
  intro w H hp
  have HM0 := Lib.hid (mem_refl hp)
  clear hp
  go_enter Try.func20, Try.ntmps20
  refine wp_seq ?_
  refine wp_region_N [(0, 1)] (by kernel_rfl) ?_
  refine wpS_this [0] rfl (by kernel_rfl) (by simp only [pickL, nthL, List.cons_append, List.nil_append]; rfl) ?_
  repeat (go_big_quiet_step (fail))
  refine wpQuiet_nil ?_
  refine wpS_nil ?_
  refine then_normal ?_
  refine wp_seq ?_
  refine wp_region_N [(0, 1)] (by kernel_rfl) ?_
  refine wpS_this [0] rfl (by kernel_rfl) (by simp only [pickL, nthL, List.cons_append, List.nil_append]; rfl) ?_
  repeat (go_big_quiet_step (fail))
  refine wpQuiet_nil ?_
  refine wpS_nil ?_
  refine then_normal ?_
  refine wp_seq ?_
  refine wp_seq ?_
  refine wp_region_N [(0, 1)] (by kernel_rfl) ?_
  refine wpS_this [0] rfl (by kernel_rfl) (by simp only [pickL, nthL, List.cons_append, List.nil_append]; rfl) ?_
  repeat (go_big_quiet_step (fail))
  refine wpQuiet_nil ?_
  refine wpS_nil ?_
  refine then_normal ?_
  refine wp_block ?_
  refine wp_loop_F [5, 6, 7, 8, 9, 10, 11, 12, 13, 14, 15, 16, 17, 18, 19] (fun n vs W' => ∃ k : Nat, n = 16 - k ∧ vs 7 = .int .i64 (k : Int) ∧ vs 5 = .int .i64 (diffK x y k : Int) ∧ k ≤ 16 ∧ Mem [R] H w W') (n0 := 16) ?_ ?_
  · exact ⟨0, rfl, rfl, rfl, Nat.zero_le _, (Mem.only (M := [_]) HM0.out [0] rfl)⟩
  rintro n vs W' ⟨k, rfl, e7, e5, hk, hm⟩
  simp only [putAll, List.map_cons, List.map_nil, Act.put, List.setIfInBounds_toArray, List.set_cons_succ, List.set_cons_zero]
  rw [e7, e5]
  clear e7 e5
  have hdb : diffK x y k ≤ k := diffK_le x y k
  have HM1 := Lib.hid hm
  clear hm
  refine wp_seq ?_
  refine wp_region_N [(0, 1)] (by kernel_rfl) ?_
  refine wpS_this [0] rfl (by kernel_rfl) (by simp only [pickL, nthL, List.cons_append, List.nil_append]; rfl) ?_
  repeat (go_big_quiet_step (fail))
  refine wpQuiet_nil ?_
  refine wpS_nil ?_
  refine then_normal ?_
  refine wp_seq ?_
  refine wp_cond_split rfl (fun h2 => ?_) (fun h2 => ?_)
  · have hk1 : k + 1 ≤ 16 := by have : (k : Int) < 16 := (by simpa using h2); omega
    clear h2
    refine wp_skip ?_
    refine then_normal ?_
    refine wp_seq ?_
    refine wp_block ?_
    refine wp_seq ?_
    refine wp_region_N [(0, 1), (1, 1)] (by kernel_rfl) ?_
    refine wpS_this [0, 1] rfl (by kernel_rfl) (by simp only [pickL, nthL, List.cons_append, List.nil_append]; rfl) ?_
    repeat (go_big_quiet_step (fail))
    refine wpQuiet_nil ?_
    refine wpS_nil ?_
    refine then_normal ?_
    refine wp_seq ?_
    refine wp_region_N [(0, 1), (1, 1), (2, 3), (3, 1), (4, 1), (5, 3), (6, 1)] (by kernel_rfl) ?_
    refine wpS_this [0, 1] rfl (by kernel_rfl) (by simp only [pickL, nthL, List.cons_append, List.nil_append]; rfl) ?_
    repeat (go_big_quiet_step (fail))
    refine wpQuiet_nil ?_
    refine wpS_does2 (i := 2) (d := some 12) (rem := []) (out := [_]) rfl (by rfl) rfl Try.call25 (rat_d R va x k hA) rfl rfl HM1.out [0] rfl covS_nil rfl rfl ?_
    rintro W4 hm3 -
    have HM5 := Lib.hid hm3
    clear hm3
    simp only [Act.put, List.setIfInBounds_toArray, List.set_cons_succ, List.set_cons_zero]
    refine wpS_this [3, 4] rfl (by kernel_rfl) (by simp only [pickL, nthL, List.cons_append, List.nil_append]; rfl) ?_
    repeat (go_big_quiet_step (fail))
    refine wpQuiet_nil ?_
    refine wpS_does2 (i := 5) (d := some 15) (rem := []) (out := [_]) rfl (by rfl) rfl Try.call25 (rat_d R vb y k hB) rfl rfl HM5.out [0] rfl covS_nil rfl rfl ?_
    rintro W7 hm6 -
    have HM8 := Lib.hid hm6
    clear hm6
    simp only [Act.put, List.setIfInBounds_toArray, List.set_cons_succ, List.set_cons_zero]
    refine wpS_this [6] rfl (by kernel_rfl) (by simp only [pickL, nthL, List.cons_append, List.nil_append]; rfl) ?_
    repeat (go_big_quiet_step (fail))
    refine wpQuiet_nil ?_
    refine wpS_nil ?_
    refine then_normal ?_
    refine wp_cond_split rfl (fun h9 => ?_) (fun h9 => ?_)
    · have h5 := Lib.hid (show (atL x k != atL y k) = true by simpa using h9)
      clear h9
      refine wp_region_N [(0, 1), (1, 1), (2, 1)] (by kernel_rfl) ?_
      refine wpS_this [0, 1, 2] rfl (by kernel_rfl) (by simp only [pickL, nthL, List.cons_append, List.nil_append]; rfl) ?_
      repeat (go_big_quiet_step (fail))
      refine wpQuiet_nil ?_
      refine wpS_nil ?_
      refine block_normal ?_
      refine then_normal ?_
      refine wp_region_N [(0, 1), (1, 1)] (by kernel_rfl) ?_
      refine wpS_this [0, 1] rfl (by kernel_rfl) (by simp only [pickL, nthL, List.cons_append, List.nil_append]; rfl) ?_
      repeat (go_big_quiet_step (fail))
      refine wpQuiet_nil ?_
      refine wpS_nil ?_
      refine then_normal ?_
      refine ⟨by kernel_rfl, ?_⟩
      refine ⟨16 - (k + 1), by omega, k + 1, rfl, rfl, ?_, hk1, (Mem.only (M := [_]) HM8.out [0] rfl)⟩
      rw [diffK_succ, if_pos h5.out]
      rfl
    · have h5 := Lib.hid (show ¬ (atL x k != atL y k) = true by simpa using h9)
      clear h9
      refine wp_skip ?_
      refine block_normal ?_
      refine then_normal ?_
      refine wp_region_N [(0, 1), (1, 1)] (by kernel_rfl) ?_
      refine wpS_this [0, 1] rfl (by kernel_rfl) (by simp only [pickL, nthL, List.cons_append, List.nil_append]; rfl) ?_
      repeat (go_big_quiet_step (fail))
      refine wpQuiet_nil ?_
      refine wpS_nil ?_
      refine then_normal ?_
      refine ⟨by kernel_rfl, ?_⟩
      refine ⟨16 - (k + 1), by omega, k + 1, rfl, rfl, ?_, hk1, (Mem.only (M := [_]) HM8.out [0] rfl)⟩
      rw [diffK_succ, if_neg h5.out]
      rfl
  · have hge : Hid (16 ≤ k) := Lib.hid (by have : ¬ (k : Int) < 16 := (by simpa using h2); omega)
    clear h2
    refine wp_exit ?_
    refine then_exit (then_exit (block_exit ?_))
    refine then_normal ?_
    refine wp_seq ?_
    refine wp_region_N [(0, 1), (1, 1)] (by kernel_rfl) ?_
    refine wpS_this [0, 1] rfl (by kernel_rfl) (by simp only [pickL, nthL, List.cons_append, List.nil_append]; rfl) ?_
    repeat (go_big_quiet_step (fail))
    refine wpQuiet_nil ?_
    refine wpS_nil ?_
    refine then_normal ?_
    refine wp_ret ?_
    refine bodyPost_ret (results_tmp rfl _ _ _) rfl ?_
    have hk16 : k = 16 := by have := hge.out; omega
    subst hk16
    exact does_ret (Mem.only (M := [_]) HM1.out [0] rfl) rfl rfl

end Go.Proofs.Ytagpbmgeikjnjaa
