/- Plans: the laws' helpers. -/
import Derived.Test.YtcdhipflfnafaaaPlaB
import Derived.Test.YtcdhipflfnafaaaPlaC
namespace Go.Proofs.Ytcdhipflfnafaaa
open Go Go.RowKit Go.BigFrame

/-- A plan's header, as an element. -/
def elemP : Elem Try.prog Pc where
  enc x := [.int .i64 x.v, .int .i64 x.b, .slice x.p x.n x.c]
  k := 3
  pos := by decide
  len _ := rfl
  one _ u hu := by
    simp only [List.mem_cons, List.not_mem_nil, or_false] at hu
    rcases hu with rfl | rfl | rfl <;> rfl
  t := 24
  sl := 38
  under := Try.underlying38
  z := .agg #[.int .i64 0, .int .i64 0, .slice none 0 0]
  bytes := 40
  bpos := by decide
  info := by kernel_rfl
  zs := by kernel_rfl
theorem rowOwnE {α : Type} {E : Elem Try.prog α} {v : Value} {xs : List α} : ∀ W H, (rowT E v xs).p W H → RowAt E W v xs := fun W H h => rowAt_src (rowT_reads W H h)
theorem few1 (x : Pc) : fewB [x] = decide (x.n ≤ 100) := by simp [fewB]
theorem few2 (x y : Pc) : fewB [x, y] = decide (x.n ≤ 100 ∧ y.n ≤ 100) := by simp [fewB]
theorem few3 (x y z : Pc) : fewB [x, y, z] = decide (x.n ≤ 100 ∧ y.n ≤ 100 ∧ z.n ≤ 100) := by simp [fewB]
set_option maxHeartbeats 4000000 in
set_option maxRecDepth 100000 in
theorem few_d (R : At) (v : Value) (l : List Pc) (hR : ∀ W H, R.p W H → RowAt elemP W v l) (hll : l.length ≤ 1000) : Does Try.prog 8 #[v] [R] (.bool (fewB l)) [R] := by
  intro w H hp
  have HM0 := Lib.hid (mem_refl hp)
  clear hp
  obtain ⟨p, cap, rfl, -⟩ := (HM0.out.row 0 rfl hR).form
  go_enter Try.func8, Try.ntmps8
  refine wp_seq ?_
  refine wp_region_N [(0, 1)] (by kernel_rfl) ?_
  refine wpS_this [0] rfl (by kernel_rfl) (by simp only [pickL, nthL, List.cons_append, List.nil_append]; rfl) ?_
  repeat (go_big_quiet_step (fail))
  refine wpQuiet_nil ?_
  refine wpS_nil ?_
  refine then_normal ?_
  refine wp_seq ?_
  refine wp_seq ?_
  refine wp_region_N [(0, 1), (1, 1), (2, 1)] (by kernel_rfl) ?_
  refine wpS_this [0, 1, 2] rfl (by kernel_rfl) (by simp only [pickL, nthL, List.cons_append, List.nil_append]; rfl) ?_
  repeat (go_big_quiet_step (fail))
  refine wpQuiet_nil ?_
  refine wpS_nil ?_
  refine then_normal ?_
  refine wp_block ?_
  refine wp_loop_F [2, 4, 7, 8, 9, 10, 11, 12, 13, 14, 15] (fun n vs W' => ∃ k : Nat, n = l.length - k ∧ vs 7 = .int .i64 (k : Int) ∧ k ≤ l.length ∧ fewB (l.take k) = true ∧ Mem [R] H w W') (n0 := l.length) ?_ ?_
  · exact ⟨0, rfl, rfl, Nat.zero_le _, rfl, (Mem.only (M := [_]) HM0.out [0] rfl)⟩
  rintro n vs W' ⟨k, rfl, e7, hk, hf, hm⟩
  simp only [putAll, List.map_cons, List.map_nil, Act.put, List.setIfInBounds_toArray, List.set_cons_succ, List.set_cons_zero]
  rw [e7]
  clear e7
  have hf := Lib.hid hf
  have HM1 := Lib.hid hm
  clear hm
  refine wp_seq ?_
  refine wp_region_N [(0, 1)] (by kernel_rfl) ?_
  refine wpS_this [0] rfl (by kernel_rfl) (by simp only [pickL, nthL, List.cons_append, List.nil_append]; rfl) ?_
  repeat (go_big_quiet_step (fail))
  refine wpQuiet_nil ?_
  refine wpS_nil ?_
  refine then_normal ?_
  refine wp_seq ?_
  refine wp_cond_split rfl (fun h2 => ?_) (fun h2 => ?_)
  · have hk1 : k + 1 ≤ l.length := by have : (k : Int) < ((l.length : Nat) : Int) := (by simpa using h2); omega
    clear h2
    obtain ⟨y, hy'⟩ : ∃ y, l[k]? = some y := ⟨_, List.getElem?_eq_getElem (hk1)⟩
    have hy := Lib.hid hy'
    clear hy'
    refine wp_skip ?_
    refine then_normal ?_
    refine wp_seq ?_
    refine wp_block ?_
    refine wp_seq ?_
    refine wp_region_N [(0, 1), (1, 1), (2, 3), (3, 3)] (by kernel_rfl) ?_
    refine wpS_index (E := elemP) (i := 0) (d := some 9) rfl (by rfl) rfl rfl rfl (HM1.out.row 0 rfl hR) (hy.out) rfl ?_
    intro eb3 eo4 hc5
    simp only [Act.put, List.setIfInBounds_toArray, List.set_cons_succ, List.set_cons_zero]
    refine wpS_loadA (i := 1) (d := some 10) (cells := [.int .i64 y.v, .int .i64 y.b, .slice y.p y.n y.c]) rfl (by rfl) rfl rfl hc5 Try.underlying24 rfl (by kernel_rfl) rfl ?_
    simp only [Act.put, List.setIfInBounds_toArray, List.set_cons_succ, List.set_cons_zero]
    refine wpS_alloc (i := 2) (dd := 4) (z := .agg #[.int .i64 0, .int .i64 0, .slice none 0 0]) (cs := #[.int .i64 0, .int .i64 0, .slice none 0 0]) rfl (by rfl) rfl (by kernel_rfl) rfl HM1.out covS_nil rfl ?_
    rintro b8 W7 hm6 -
    have HM9 := Lib.hid hm6
    clear hm6
    simp only [Act.put, List.setIfInBounds_toArray, List.set_cons_succ, List.set_cons_zero]
    refine wpS_storeA (i := 3) (L2 := [_]) (cs' := [_, _, _]) rfl (by rfl) rfl rfl rfl (by kernel_rfl) (by rfl) HM9.out 0 rfl rfl rfl rfl covS_nil rfl ?_
    rintro W11 hm10 -
    have HM12 := Lib.hid hm10
    clear hm10
    refine wpS_nil ?_
    refine then_normal ?_
    refine wp_seq ?_
    by_cases hy1 : y.n ≤ 100
    · have g1 : decide (100 < y.n) = false := decide_eq_false (by omega)
      have g1' : decide ((100 : Int) < (y.n : Int)) = false := decide_eq_false (by omega)
      have hy1 : Hid (decide (y.n ≤ 100) = true) := Lib.hid (decide_eq_true hy1)
      refine wp_region_N [(0, 1), (1, 1), (2, 1), (3, 1)] (by kernel_rfl) ?_
      have Cb4 := Mem.cell HM12.out 0 rfl
      refine wpS_this [0, 1, 2, 3] rfl (by kernel_rfl) (by simp only [pickL, nthL, List.cons_append, List.nil_append]; rfl) ?_
      repeat (go_big_quiet_step (fail))
      refine wpQuiet_nil ?_
      clear Cb4
      refine wpS_nil ?_
      refine then_normal ?_
      refine wp_cond_false rfl ?_
      refine wp_skip ?_
      refine block_normal ?_
      refine then_normal ?_
      refine wp_region_N [(0, 1), (1, 1)] (by kernel_rfl) ?_
      refine wpS_this [0, 1] rfl (by kernel_rfl) (by simp only [pickL, nthL, List.cons_append, List.nil_append]; rfl) ?_
      repeat (go_big_quiet_step (fail))
      refine wpQuiet_nil ?_
      refine wpS_nil ?_
      refine then_normal ?_
      refine ⟨by kernel_rfl, ?_⟩
      refine ⟨l.length - (k + 1), by omega, k + 1, rfl, rfl, hk1, ?_, (Mem.only (M := [_]) HM12.out [1] rfl)⟩
      rw [few_step hy.out, hf.out, hy1.out]
      rfl
    · have g1 : decide (100 < y.n) = true := decide_eq_true (by omega)
      have g1' : decide ((100 : Int) < (y.n : Int)) = true := decide_eq_true (by omega)
      have hy1 := Lib.hid hy1
      refine wp_region_N [(0, 1), (1, 1), (2, 1), (3, 1)] (by kernel_rfl) ?_
      have Cb4 := Mem.cell HM12.out 0 rfl
      refine wpS_this [0, 1, 2, 3] rfl (by kernel_rfl) (by simp only [pickL, nthL, List.cons_append, List.nil_append]; rfl) ?_
      repeat (go_big_quiet_step (fail))
      refine wpQuiet_nil ?_
      clear Cb4
      refine wpS_nil ?_
      refine then_normal ?_
      refine wp_cond_true rfl ?_
      refine wp_seq ?_
      refine wp_region_N [(0, 1)] (by kernel_rfl) ?_
      refine wpS_this [0] rfl (by kernel_rfl) (by simp only [pickL, nthL, List.cons_append, List.nil_append]; rfl) ?_
      repeat (go_big_quiet_step (fail))
      refine wpQuiet_nil ?_
      refine wpS_nil ?_
      refine then_normal ?_
      refine wp_ret ?_
      refine block_ret (then_ret (then_ret (block_ret (then_ret ?_))))
      refine bodyPost_ret (results_tmp rfl _ _ _) rfl ?_
      rw [few_no hy.out hy1.out]
      exact does_ret (Mem.only (M := [_]) HM12.out [1] rfl) rfl rfl
  · have hge : Hid (l.length ≤ k) := Lib.hid (by have : ¬ (k : Int) < ((l.length : Nat) : Int) := (by simpa using h2); omega)
    clear h2
    refine wp_exit ?_
    refine then_exit (then_exit (block_exit ?_))
    refine then_normal ?_
    refine wp_seq ?_
    refine wp_region_N [(0, 1)] (by kernel_rfl) ?_
    refine wpS_this [0] rfl (by kernel_rfl) (by simp only [pickL, nthL, List.cons_append, List.nil_append]; rfl) ?_
    repeat (go_big_quiet_step (fail))
    refine wpQuiet_nil ?_
    refine wpS_nil ?_
    refine then_normal ?_
    refine wp_ret ?_
    refine bodyPost_ret (results_tmp rfl _ _ _) rfl ?_
    have hkl : k = l.length := by have := hge.out; omega
    subst hkl
    rw [few_end (List.take_length) hf.out]
    exact does_ret (Mem.only (M := [_]) HM1.out [0] rfl) rfl rfl

set_option maxHeartbeats 4000000 in
set_option maxRecDepth 100000 in
theorem same_d (R : At) (va : Value) (a1 a2 : Int) (sa : List Int) (ha : Reads elemI R va sa) (la : sa.length ≤ 1000) (vb : Value) (b1 b2 : Int) (sb : List Int) (hb : Reads elemI R vb sb) (_lb : sb.length ≤ 1000) : Does Try.prog 16 #[.agg #[.int .i64 a1, .int .i64 a2, va], .agg #[.int .i64 b1, .int .i64 b2, vb]] [R] (.bool (decide (((a1, a2, sa) : Pl) = (b1, b2, sb)))) [R] := by
  intro w H hp
  have HM0 := Lib.hid (mem_refl hp)
  clear hp
  obtain ⟨pa, ca, rfl⟩ := row_form (Mem.src HM0.out 0 rfl ha)
  obtain ⟨pb, cb, rfl⟩ := row_form (Mem.src HM0.out 0 rfl hb)
  go_enter Try.func16, Try.ntmps16
  refine wp_seq ?_
  refine wp_region_N [(0, 3), (1, 3), (2, 1)] (by kernel_rfl) ?_
  refine wpS_boxA (i := 0) (dd := 2) rfl (by rfl) rfl rfl HM0.out covS_nil rfl ?_
  rintro b3 W2 hm1 -
  have HM4 := Lib.hid hm1
  clear hm1
  simp only [Act.put, List.setIfInBounds_toArray, List.set_cons_succ, List.set_cons_zero]
  refine wpS_boxA (i := 1) (dd := 3) rfl (by rfl) rfl rfl HM4.out covS_nil rfl ?_
  rintro b7 W6 hm5 -
  have HM8 := Lib.hid hm5
  clear hm5
  simp only [Act.put, List.setIfInBounds_toArray, List.set_cons_succ, List.set_cons_zero]
  refine wpS_this [2] rfl (by kernel_rfl) (by simp only [pickL, nthL, List.cons_append, List.nil_append]; rfl) ?_
  repeat (go_big_quiet_step (fail))
  refine wpQuiet_nil ?_
  refine wpS_nil ?_
  refine then_normal ?_
  refine wp_seq ?_
  refine wp_seq ?_
  rcases (show a1 ≠ b1 ∨ (a1 = b1 ∧ a2 ≠ b2) ∨ (a1 = b1 ∧ a2 = b2 ∧ sa.length ≠ sb.length) ∨ (a1 = b1 ∧ a2 = b2 ∧ sa.length = sb.length) from by omega) with h1 | ⟨h1, h2⟩ | ⟨h1, h2, h3⟩ | ⟨h1, h2, h3⟩
  · have g1 : (a1 != b1) = true := bne_iff_ne.2 h1
    have hc : Hid (decide (((a1, a2, sa) : Pl) = (b1, b2, sb)) = false) := Lib.hid (decide_eq_false fun h => h1 (congrArg (·.1) h))
    clear h1
    refine wp_region_N [(0, 1), (1, 1), (2, 1), (3, 1), (4, 1), (5, 1), (6, 1), (7, 1), (8, 1), (9, 1), (10, 1), (11, 1), (12, 1), (13, 1), (14, 1), (15, 1), (16, 1), (17, 1), (18, 1), (19, 1), (20, 1)] (by kernel_rfl) ?_
    have Cb2 := Mem.cell HM8.out 1 rfl
    have Cb3 := Mem.cell HM8.out 0 rfl
    refine wpS_this [0, 1, 2, 3, 4, 5, 6, 7, 8, 9, 10, 11, 12, 13, 14, 15, 16, 17, 18, 19, 20] rfl (by kernel_rfl) (by simp only [pickL, nthL, List.cons_append, List.nil_append]; rfl) ?_
    repeat (go_big_quiet_step (fail))
    refine wpQuiet_nil ?_
    clear Cb2 Cb3
    refine wpS_nil ?_
    refine then_normal ?_
    refine wp_cond_true rfl ?_
    refine wp_seq ?_
    refine wp_region_N [(0, 1)] (by kernel_rfl) ?_
    refine wpS_this [0] rfl (by kernel_rfl) (by simp only [pickL, nthL, List.cons_append, List.nil_append]; rfl) ?_
    repeat (go_big_quiet_step (fail))
    refine wpQuiet_nil ?_
    refine wpS_nil ?_
    refine then_normal ?_
    refine wp_ret ?_
    refine then_ret ?_
    refine bodyPost_ret (results_tmp rfl _ _ _) rfl ?_
    rw [hc.out]
    exact does_ret (Mem.only (M := [_]) HM8.out [2] rfl) rfl rfl
  · have g1 : (a1 != b1) = false := by simpa using h1
    have g2 : (a2 != b2) = true := bne_iff_ne.2 h2
    have hc : Hid (decide (((a1, a2, sa) : Pl) = (b1, b2, sb)) = false) := Lib.hid (decide_eq_false fun h => h2 (congrArg (·.2.1) h))
    clear h1 h2
    refine wp_region_N [(0, 1), (1, 1), (2, 1), (3, 1), (4, 1), (5, 1), (6, 1), (7, 1), (8, 1), (9, 1), (10, 1), (11, 1), (12, 1), (13, 1), (14, 1), (15, 1), (16, 1), (17, 1), (18, 1), (19, 1), (20, 1)] (by kernel_rfl) ?_
    have Cb2 := Mem.cell HM8.out 1 rfl
    have Cb3 := Mem.cell HM8.out 0 rfl
    refine wpS_this [0, 1, 2, 3, 4, 5, 6, 7, 8, 9, 10, 11, 12, 13, 14, 15, 16, 17, 18, 19, 20] rfl (by kernel_rfl) (by simp only [pickL, nthL, List.cons_append, List.nil_append]; rfl) ?_
    repeat (go_big_quiet_step (fail))
    refine wpQuiet_nil ?_
    clear Cb2 Cb3
    refine wpS_nil ?_
    refine then_normal ?_
    refine wp_cond_true rfl ?_
    refine wp_seq ?_
    refine wp_region_N [(0, 1)] (by kernel_rfl) ?_
    refine wpS_this [0] rfl (by kernel_rfl) (by simp only [pickL, nthL, List.cons_append, List.nil_append]; rfl) ?_
    repeat (go_big_quiet_step (fail))
    refine wpQuiet_nil ?_
    refine wpS_nil ?_
    refine then_normal ?_
    refine wp_ret ?_
    refine then_ret ?_
    refine bodyPost_ret (results_tmp rfl _ _ _) rfl ?_
    rw [hc.out]
    exact does_ret (Mem.only (M := [_]) HM8.out [2] rfl) rfl rfl
  · have g1 : (a1 != b1) = false := by simpa using h1
    have g2 : (a2 != b2) = false := by simpa using h2
    have g3 : ((sa.length : Int) != (sb.length : Int)) = true := bne_iff_ne.2 (by omega)
    have g3n : (sa.length != sb.length) = true := bne_iff_ne.2 h3
    have hc : Hid (decide (((a1, a2, sa) : Pl) = (b1, b2, sb)) = false) := Lib.hid (decide_eq_false fun h => h3 (congrArg (fun z : Pl => z.2.2.length) h))
    clear h1 h2 h3
    refine wp_region_N [(0, 1), (1, 1), (2, 1), (3, 1), (4, 1), (5, 1), (6, 1), (7, 1), (8, 1), (9, 1), (10, 1), (11, 1), (12, 1), (13, 1), (14, 1), (15, 1), (16, 1), (17, 1), (18, 1), (19, 1), (20, 1)] (by kernel_rfl) ?_
    have Cb2 := Mem.cell HM8.out 1 rfl
    have Cb3 := Mem.cell HM8.out 0 rfl
    refine wpS_this [0, 1, 2, 3, 4, 5, 6, 7, 8, 9, 10, 11, 12, 13, 14, 15, 16, 17, 18, 19, 20] rfl (by kernel_rfl) (by simp only [pickL, nthL, List.cons_append, List.nil_append]; rfl) ?_
    repeat (go_big_quiet_step (fail))
    refine wpQuiet_nil ?_
    clear Cb2 Cb3
    refine wpS_nil ?_
    refine then_normal ?_
    refine wp_cond_true rfl ?_
    refine wp_seq ?_
    refine wp_region_N [(0, 1)] (by kernel_rfl) ?_
    refine wpS_this [0] rfl (by kernel_rfl) (by simp only [pickL, nthL, List.cons_append, List.nil_append]; rfl) ?_
    repeat (go_big_quiet_step (fail))
    refine wpQuiet_nil ?_
    refine wpS_nil ?_
    refine then_normal ?_
    refine wp_ret ?_
    refine then_ret ?_
    refine bodyPost_ret (results_tmp rfl _ _ _) rfl ?_
    rw [hc.out]
    exact does_ret (Mem.only (M := [_]) HM8.out [2] rfl) rfl rfl
  · have g1 : (a1 != b1) = false := by simpa using h1
    have g2 : (a2 != b2) = false := by simpa using h2
    have g3 : ((sa.length : Int) != (sb.length : Int)) = false := by rw [h3]; exact bne_self_eq_false _
    have g3n : (sa.length != sb.length) = false := by rw [h3]; exact bne_self_eq_false _
    have hl := Lib.hid h3
    have he1 := Lib.hid h1
    have he2 := Lib.hid h2
    clear h1 h2 h3
    refine wp_region_N [(0, 1), (1, 1), (2, 1), (3, 1), (4, 1), (5, 1), (6, 1), (7, 1), (8, 1), (9, 1), (10, 1), (11, 1), (12, 1), (13, 1), (14, 1), (15, 1), (16, 1), (17, 1), (18, 1), (19, 1), (20, 1)] (by kernel_rfl) ?_
    have Cb2 := Mem.cell HM8.out 1 rfl
    have Cb3 := Mem.cell HM8.out 0 rfl
    refine wpS_this [0, 1, 2, 3, 4, 5, 6, 7, 8, 9, 10, 11, 12, 13, 14, 15, 16, 17, 18, 19, 20] rfl (by kernel_rfl) (by simp only [pickL, nthL, List.cons_append, List.nil_append]; rfl) ?_
    repeat (go_big_quiet_step (fail))
    refine wpQuiet_nil ?_
    clear Cb2 Cb3
    refine wpS_nil ?_
    refine then_normal ?_
    refine wp_cond_false rfl ?_
    refine wp_skip ?_
    refine then_normal ?_
    refine wp_seq ?_
    refine wp_seq ?_
    refine wp_region_N [(0, 1), (1, 1), (2, 1), (3, 1)] (by kernel_rfl) ?_
    have Cb2 := Mem.cell HM8.out 1 rfl
    refine wpS_this [0, 1, 2, 3] rfl (by kernel_rfl) (by simp only [pickL, nthL, List.cons_append, List.nil_append]; rfl) ?_
    repeat (go_big_quiet_step (fail))
    refine wpQuiet_nil ?_
    clear Cb2
    refine wpS_nil ?_
    refine then_normal ?_
    refine wp_block ?_
    refine wp_loop_F [4, 5, 30, 31, 32, 33, 34, 35, 36, 37, 38, 39, 40, 41, 42, 43, 44] (fun n vs W' => ∃ k : Nat, n = sa.length - k ∧ vs 30 = .int .i64 (k : Int) ∧ k ≤ sa.length ∧ sa.take k = sb.take k ∧ Mem [boxT b3 (.cells #[.int .i64 a1, .int .i64 a2, .slice pa sa.length ca] 24 (0, 0)), boxT b7 (.cells #[.int .i64 b1, .int .i64 b2, .slice pb sb.length cb] 24 (0, 0)), R] H w W') (n0 := sa.length) ?_ ?_
    · exact ⟨0, rfl, rfl, Nat.zero_le _, rfl, (Mem.only (M := [_, _, _]) HM8.out [1, 0, 0] rfl)⟩
    rintro n vs W' ⟨k, rfl, e30, hk, hf, hm⟩
    simp only [putAll, List.map_cons, List.map_nil, Act.put, List.setIfInBounds_toArray, List.set_cons_succ, List.set_cons_zero]
    rw [e30]
    clear e30
    have hf := Lib.hid hf
    have HM9 := Lib.hid hm
    clear hm
    refine wp_seq ?_
    refine wp_region_N [(0, 1)] (by kernel_rfl) ?_
    refine wpS_this [0] rfl (by kernel_rfl) (by simp only [pickL, nthL, List.cons_append, List.nil_append]; rfl) ?_
    repeat (go_big_quiet_step (fail))
    refine wpQuiet_nil ?_
    refine wpS_nil ?_
    refine then_normal ?_
    refine wp_seq ?_
    refine wp_cond_split rfl (fun h10 => ?_) (fun h10 => ?_)
    · have hk1 : k + 1 ≤ sa.length := by have : (k : Int) < ((sa.length : Nat) : Int) := (by simpa using h10); omega
      clear h10
      obtain ⟨x, hx'⟩ : ∃ y, sa[k]? = some y := ⟨_, List.getElem?_eq_getElem (hk1)⟩
      have hx := Lib.hid hx'
      clear hx'
      obtain ⟨y, hy'⟩ : ∃ y, sb[k]? = some y := ⟨_, List.getElem?_eq_getElem (by have := hl.out; omega)⟩
      have hy := Lib.hid hy'
      clear hy'
      refine wp_skip ?_
      refine then_normal ?_
      refine wp_seq ?_
      refine wp_block ?_
      refine wp_seq ?_
      refine wp_region_N [(0, 1), (1, 1)] (by kernel_rfl) ?_
      refine wpS_this [0, 1] rfl (by kernel_rfl) (by simp only [pickL, nthL, List.cons_append, List.nil_append]; rfl) ?_
      repeat (go_big_quiet_step (fail))
      refine wpQuiet_nil ?_
      refine wpS_nil ?_
      refine then_normal ?_
      refine wp_seq ?_
      by_cases hxy : x = y
      · have g4 : (x != y) = false := by simp [hxy]
        replace hxy := Lib.hid hxy
        refine wp_region_M (fun k => k ∈ ([] : List Nat)) [(0, 1), (1, 1), (2, 1), (3, 1), (4, 1), (5, 1), (6, 1), (7, 1), (8, 1), (9, 1), (10, 1)] (by kernel_rfl) (by kernel_rfl) HM9.out ?_
        intro W11 hm12
        have HM13 := Lib.hid hm12
        clear hm12
        have Cb2 := Mem.cell HM13.out 0 rfl
        refine wpS_this [0, 1, 2] rfl (by kernel_rfl) (by simp only [pickL, nthL, List.cons_append, List.nil_append]; rfl) ?_
        repeat (go_big_quiet_step (fail))
        refine wpQuiet_nil ?_
        clear Cb2
        refine wpS_index (E := elemI) (i := 3) (d := some 36) rfl (by rfl) rfl rfl rfl (HM13.out.row 2 rfl ha.row) (hx.out) rfl ?_
        intro eb14 eo15 hc16
        simp only [Act.put, List.setIfInBounds_toArray, List.set_cons_succ, List.set_cons_zero]
        refine wpS_load1 (i := 4) (d := some 37) (u := .int .i64 x) rfl (by rfl) rfl rfl (hc16 0 _ rfl) Try.underlying3 rfl rfl ?_
        simp only [Act.put, List.setIfInBounds_toArray, List.set_cons_succ, List.set_cons_zero]
        have Cb3 := Mem.cell HM13.out 1 rfl
        refine wpS_this [5, 6, 7] rfl (by kernel_rfl) (by simp only [pickL, nthL, List.cons_append, List.nil_append]; rfl) ?_
        repeat (go_big_quiet_step (fail))
        refine wpQuiet_nil ?_
        clear Cb3
        refine wpS_index (E := elemI) (i := 8) (d := some 41) rfl (by rfl) rfl rfl rfl (HM13.out.row 2 rfl hb.row) (hy.out) rfl ?_
        intro eb17 eo18 hc19
        simp only [Act.put, List.setIfInBounds_toArray, List.set_cons_succ, List.set_cons_zero]
        refine wpS_load1 (i := 9) (d := some 42) (u := .int .i64 y) rfl (by rfl) rfl rfl (hc19 0 _ rfl) Try.underlying3 rfl rfl ?_
        simp only [Act.put, List.setIfInBounds_toArray, List.set_cons_succ, List.set_cons_zero]
        refine wpS_this [10] rfl (by kernel_rfl) (by simp only [pickL, nthL, List.cons_append, List.nil_append]; rfl) ?_
        repeat (go_big_quiet_step (fail))
        refine wpQuiet_nil ?_
        refine wpS_nil ?_
        refine then_normal ?_
        refine wp_cond_false rfl ?_
        refine wp_skip ?_
        refine block_normal ?_
        refine then_normal ?_
        refine wp_region_N [(0, 1), (1, 1)] (by kernel_rfl) ?_
        refine wpS_this [0, 1] rfl (by kernel_rfl) (by simp only [pickL, nthL, List.cons_append, List.nil_append]; rfl) ?_
        repeat (go_big_quiet_step (fail))
        refine wpQuiet_nil ?_
        refine wpS_nil ?_
        refine then_normal ?_
        refine ⟨by kernel_rfl, ?_⟩
        refine ⟨sa.length - (k + 1), by omega, k + 1, rfl, rfl, hk1, ?_, (Mem.only (M := [_, _, _]) HM13.out [0, 0, 0] rfl)⟩
        rw [List.take_add_one, List.take_add_one, hf.out, hx.out, hy.out, hxy.out]
      · have g4 : (x != y) = true := by simp [hxy]
        replace hxy := Lib.hid hxy
        refine wp_region_M (fun k => k ∈ ([] : List Nat)) [(0, 1), (1, 1), (2, 1), (3, 1), (4, 1), (5, 1), (6, 1), (7, 1), (8, 1), (9, 1), (10, 1)] (by kernel_rfl) (by kernel_rfl) HM9.out ?_
        intro W20 hm21
        have HM22 := Lib.hid hm21
        clear hm21
        have Cb2 := Mem.cell HM22.out 0 rfl
        refine wpS_this [0, 1, 2] rfl (by kernel_rfl) (by simp only [pickL, nthL, List.cons_append, List.nil_append]; rfl) ?_
        repeat (go_big_quiet_step (fail))
        refine wpQuiet_nil ?_
        clear Cb2
        refine wpS_index (E := elemI) (i := 3) (d := some 36) rfl (by rfl) rfl rfl rfl (HM22.out.row 2 rfl ha.row) (hx.out) rfl ?_
        intro eb23 eo24 hc25
        simp only [Act.put, List.setIfInBounds_toArray, List.set_cons_succ, List.set_cons_zero]
        refine wpS_load1 (i := 4) (d := some 37) (u := .int .i64 x) rfl (by rfl) rfl rfl (hc25 0 _ rfl) Try.underlying3 rfl rfl ?_
        simp only [Act.put, List.setIfInBounds_toArray, List.set_cons_succ, List.set_cons_zero]
        have Cb3 := Mem.cell HM22.out 1 rfl
        refine wpS_this [5, 6, 7] rfl (by kernel_rfl) (by simp only [pickL, nthL, List.cons_append, List.nil_append]; rfl) ?_
        repeat (go_big_quiet_step (fail))
        refine wpQuiet_nil ?_
        clear Cb3
        refine wpS_index (E := elemI) (i := 8) (d := some 41) rfl (by rfl) rfl rfl rfl (HM22.out.row 2 rfl hb.row) (hy.out) rfl ?_
        intro eb26 eo27 hc28
        simp only [Act.put, List.setIfInBounds_toArray, List.set_cons_succ, List.set_cons_zero]
        refine wpS_load1 (i := 9) (d := some 42) (u := .int .i64 y) rfl (by rfl) rfl rfl (hc28 0 _ rfl) Try.underlying3 rfl rfl ?_
        simp only [Act.put, List.setIfInBounds_toArray, List.set_cons_succ, List.set_cons_zero]
        refine wpS_this [10] rfl (by kernel_rfl) (by simp only [pickL, nthL, List.cons_append, List.nil_append]; rfl) ?_
        repeat (go_big_quiet_step (fail))
        refine wpQuiet_nil ?_
        refine wpS_nil ?_
        refine then_normal ?_
        refine wp_cond_true rfl ?_
        refine wp_seq ?_
        refine wp_region_N [(0, 1)] (by kernel_rfl) ?_
        refine wpS_this [0] rfl (by kernel_rfl) (by simp only [pickL, nthL, List.cons_append, List.nil_append]; rfl) ?_
        repeat (go_big_quiet_step (fail))
        refine wpQuiet_nil ?_
        refine wpS_nil ?_
        refine then_normal ?_
        refine wp_ret ?_
        refine block_ret (then_ret (then_ret (block_ret (then_ret ?_))))
        refine bodyPost_ret (results_tmp rfl _ _ _) rfl ?_
        have hc : decide (((a1, a2, sa) : Pl) = (b1, b2, sb)) = false := decide_eq_false fun e => hxy.out (by have h1 := hx.out; have e3 := congrArg (fun z : Pl => z.2.2) e; dsimp only at e3; rw [e3, hy.out] at h1; exact (Option.some.inj h1).symm)
        rw [hc]
        exact does_ret (Mem.only (M := [_]) HM22.out [2] rfl) rfl rfl
    · have hge : Hid (sa.length ≤ k) := Lib.hid (by have : ¬ (k : Int) < ((sa.length : Nat) : Int) := (by simpa using h10); omega)
      clear h10
      refine wp_exit ?_
      refine then_exit (then_exit (block_exit ?_))
      refine then_normal ?_
      refine wp_seq ?_
      refine wp_region_N [(0, 1)] (by kernel_rfl) ?_
      refine wpS_this [0] rfl (by kernel_rfl) (by simp only [pickL, nthL, List.cons_append, List.nil_append]; rfl) ?_
      repeat (go_big_quiet_step (fail))
      refine wpQuiet_nil ?_
      refine wpS_nil ?_
      refine then_normal ?_
      refine wp_ret ?_
      refine bodyPost_ret (results_tmp rfl _ _ _) rfl ?_
      have hkl : k = sa.length := by have := hge.out; omega
      subst hkl
      have hf2 := hf.out
      rw [List.take_length, List.take_of_length_le (by rw [hl.out]; exact Nat.le_refl _)] at hf2
      have hc : decide (((a1, a2, sa) : Pl) = (b1, b2, sb)) = true := decide_eq_true (by rw [he1.out, he2.out, hf2])
      rw [hc]
      exact does_ret (Mem.only (M := [_]) HM9.out [2] rfl) rfl rfl

set_option maxHeartbeats 4000000 in
set_option maxRecDepth 100000 in
theorem awake_d  : Does Try.prog 9 #[] [] (.bool true) [] := by
  intro w H hp
  have HM0 := Lib.hid (mem_refl hp)
  clear hp
  go_enter Try.func9, Try.ntmps9
  refine wp_seq ?_
  refine wp_region_N [(0, 1)] (by kernel_rfl) ?_
  refine wpS_this [0] rfl (by kernel_rfl) (by simp only [pickL, nthL, List.cons_append, List.nil_append]; rfl) ?_
  repeat (go_big_quiet_step (fail))
  refine wpQuiet_nil ?_
  refine wpS_nil ?_
  refine then_normal ?_
  refine wp_seq ?_
  refine wp_region_N [(0, 1), (1, 3), (2, 3), (3, 1), (4, 1), (5, 1), (6, 3), (7, 3), (8, 1)] (by kernel_rfl) ?_
  refine wpS_this [0] rfl (by kernel_rfl) (by simp only [pickL, nthL, List.cons_append, List.nil_append]; rfl) ?_
  repeat (go_big_quiet_step (fail))
  refine wpQuiet_nil ?_
  refine wpS_makeI (i := 1) (dd := 5) (n := 16) rfl (by rfl) rfl rfl rfl (by omega) HM0.out covS_nil rfl ?_
  rintro zb W4 hm3 -
  have HM5 := Lib.hid hm3
  clear hm3
  simp only [Act.put, List.setIfInBounds_toArray, List.set_cons_succ, List.set_cons_zero]
  refine wpS_doesU3 (i := 2) (d := some 6) (rem := []) rfl (by rfl) rfl Try.call10 (next_d (intsT zb (List.replicate 16 0)) (.slice none 0 0) 0 0 [] (srcNil _) (Nat.zero_le _) 2 _ (List.replicate 16 0) (srcInts List.length_replicate) (by decide) 1 2 (List.replicate 16 0) 0 (by decide)) rfl rfl rfl HM5.out [0] rfl covS_nil (fun _ => rfl) rfl ?_
  rintro u8 W7 hm6 -
  obtain ⟨px, cx, rfl, hm6q⟩ := Mem.next (n := 16) List.length_replicate hm6
  clear hm6
  have HM9 := Lib.hid hm6q
  clear hm6q
  simp only [Act.put, List.setIfInBounds_toArray, List.set_cons_succ, List.set_cons_zero]
  refine wpS_this [3, 4, 5] rfl (by kernel_rfl) (by simp only [pickL, nthL, List.cons_append, List.nil_append]; rfl) ?_
  repeat (go_big_quiet_step (fail))
  refine wpQuiet_nil ?_
  refine wpS_alloc (i := 6) (dd := 1) (z := .agg #[.int .i64 0, .int .i64 0, .slice none 0 0]) (cs := #[.int .i64 0, .int .i64 0, .slice none 0 0]) rfl (by rfl) rfl (by kernel_rfl) rfl HM9.out covS_nil rfl ?_
  rintro b12 W11 hm10 -
  have HM13 := Lib.hid hm10
  clear hm10
  simp only [Act.put, List.setIfInBounds_toArray, List.set_cons_succ, List.set_cons_zero]
  refine wpS_storeA (i := 7) (L2 := [_, _]) (cs' := [_, _, _]) rfl (by rfl) rfl rfl rfl (by kernel_rfl) (by rfl) HM13.out 0 rfl rfl rfl rfl covS_nil rfl ?_
  rintro W15 hm14 -
  have HM16 := Lib.hid hm14
  clear hm14
  refine wpS_this [8] rfl (by kernel_rfl) (by simp only [pickL, nthL, List.cons_append, List.nil_append]; rfl) ?_
  repeat (go_big_quiet_step (fail))
  refine wpQuiet_nil ?_
  refine wpS_nil ?_
  refine then_normal ?_
  refine wp_seq ?_
  refine wp_region_N [(0, 1), (1, 1), (2, 1), (3, 1), (4, 1), (5, 1), (6, 1), (7, 1), (8, 1), (9, 1), (10, 1), (11, 1), (12, 1), (13, 1), (14, 1), (15, 1), (16, 1), (17, 1), (18, 1), (19, 1), (20, 3), (21, 1), (22, 1), (23, 1), (24, 1), (25, 3), (26, 1), (27, 1), (28, 1)] (by kernel_rfl) ?_
  have Cb1 := Mem.cell HM16.out 0 rfl
  refine wpS_this [0, 1, 2, 3, 4, 5, 6, 7, 8, 9, 10, 11, 12, 13, 14, 15, 16, 17, 18, 19] rfl (by kernel_rfl) (by simp only [pickL, nthL, List.cons_append, List.nil_append]; rfl) ?_
  repeat (go_big_quiet_step (fail))
  refine wpQuiet_nil ?_
  clear Cb1
  refine wpS_does1 (i := 20) (d := some 29) (rem := [_, _]) (out := [_, _, _]) rfl (by rfl) rfl Try.call12 (may_d (rowT elemI _ _) _ 1 2 (List.replicate 16 0) rowT_reads (by decide)) rfl HM16.out [1] rfl covS_nil rfl rfl ?_
  rintro W18 hm17 -
  rw [show mayP (1, 2, (List.replicate 16 0)) = true from by decide]
  have HM19 := Lib.hid hm17
  clear hm17
  simp only [Act.put, List.setIfInBounds_toArray, List.set_cons_succ, List.set_cons_zero]
  have Cb1 := Mem.cell HM19.out 1 rfl
  refine wpS_this [21, 22, 23, 24] rfl (by kernel_rfl) (by simp only [pickL, nthL, List.cons_append, List.nil_append]; rfl) ?_
  repeat (go_big_quiet_step (fail))
  refine wpQuiet_nil ?_
  clear Cb1
  refine wpS_does2 (i := 25) (d := some 34) (rem := [_, _]) (out := [_, _, _]) rfl (by rfl) rfl Try.call14 (compare_d (rowT elemI _ _) _ 1 2 (List.replicate 16 0) rowT_reads (by decide) (.slice none 0 0) 0 0 [] (srcNil _) (Nat.zero_le _)) rfl rfl HM19.out [0] rfl covS_nil rfl rfl ?_
  rintro W21 hm20 -
  rw [show cmpP (1, 2, (List.replicate 16 0)) (0, 0, []) = 1 from by decide]
  have HM22 := Lib.hid hm20
  clear hm20
  simp only [Act.put, List.setIfInBounds_toArray, List.set_cons_succ, List.set_cons_zero]
  refine wpS_this [26, 27, 28] rfl (by kernel_rfl) (by simp only [pickL, nthL, List.cons_append, List.nil_append]; rfl) ?_
  repeat (go_big_quiet_step (fail))
  refine wpQuiet_nil ?_
  refine wpS_nil ?_
  refine then_normal ?_
  refine wp_ret ?_
  refine bodyPost_ret (results_tmp rfl _ _ _) rfl ?_
  exact does_ret (Mem.only (M := []) HM22.out [] rfl) rfl rfl

end Go.Proofs.Ytcdhipflfnafaaa
