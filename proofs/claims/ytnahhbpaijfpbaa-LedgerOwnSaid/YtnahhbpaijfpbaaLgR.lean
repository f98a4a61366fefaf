/- Ledgers: the reference's keys and bags. -/
import Derived.Test.YtnahhbpaijfpbaaLgV
import Derived.Test.YtnahhbpaijfpbaaBgE
import Derived.Test.YtnahhbpaijfpbaaRgK
namespace Go.Proofs.Ytnahhbpaijfpbaa
open Go Go.RowKit Go.BigFrame

set_option maxHeartbeats 4000000 in
set_option maxRecDepth 100000 in
theorem rkey_d (s : ByteArray) : Does Try.prog 37 #[.string s] [] (.bool (keyB s)) [] := by
  intro w H hp
  have HM0 := Lib.hid (mem_refl hp)
  clear hp
  go_enter Try.func37, Try.ntmps37
  refine wp_seq ?_
  refine wp_region_N [(0, 1)] (by kernel_rfl) ?_
  refine wpS_this [0] rfl (by kernel_rfl) (by simp only [pickL, nthL, List.cons_append, List.nil_append]; rfl) ?_
  repeat (go_big_quiet_step (fail))
  refine wpQuiet_nil ?_
  refine wpS_nil ?_
  refine then_normal ?_
  refine wp_seq ?_
  by_cases h1 : 1 ≤ s.size <;> by_cases h2 : s.size ≤ 32
  · have hc : Hid (keyB s = true) := Lib.hid (by unfold keyB; exact decide_eq_true (by omega))
    have g1 : decide ((1 : Int) ≤ (s.size : Int)) = true := decide_eq_true (by omega)
    have g1' : decide (1 ≤ s.size) = true := decide_eq_true (by omega)
    have g2 : decide ((s.size : Int) ≤ 32) = true := decide_eq_true (by omega)
    have g2' : decide (s.size ≤ 32) = true := decide_eq_true (by omega)
    replace h1 := Lib.hid h1
    replace h2 := Lib.hid h2
    refine wp_region_N [(0, 1), (1, 1), (2, 1), (3, 1), (4, 1), (5, 1), (6, 1), (7, 1), (8, 1)] (by kernel_rfl) ?_
    refine wpS_this [0, 1, 2, 3, 4, 5, 6, 7, 8] rfl (by kernel_rfl) (by simp only [pickL, nthL, List.cons_append, List.nil_append]; rfl) ?_
    repeat (go_big_quiet_step (fail))
    refine wpQuiet_nil ?_
    refine wpS_nil ?_
    refine then_normal ?_
    refine wp_ret ?_
    refine bodyPost_ret (results_tmp rfl _ _ _) rfl ?_
    rw [hc.out]
    exact does_ret (Mem.only (M := []) HM0.out [] rfl) rfl rfl
  · have hc : Hid (keyB s = false) := Lib.hid (by unfold keyB; exact decide_eq_false (by omega))
    have g1 : decide ((1 : Int) ≤ (s.size : Int)) = true := decide_eq_true (by omega)
    have g1' : decide (1 ≤ s.size) = true := decide_eq_true (by omega)
    have g2 : decide ((s.size : Int) ≤ 32) = false := decide_eq_false (by omega)
    have g2' : decide (s.size ≤ 32) = false := decide_eq_false (by omega)
    replace h1 := Lib.hid h1
    replace h2 := Lib.hid h2
    refine wp_region_N [(0, 1), (1, 1), (2, 1), (3, 1), (4, 1), (5, 1), (6, 1), (7, 1), (8, 1)] (by kernel_rfl) ?_
    refine wpS_this [0, 1, 2, 3, 4, 5, 6, 7, 8] rfl (by kernel_rfl) (by simp only [pickL, nthL, List.cons_append, List.nil_append]; rfl) ?_
    repeat (go_big_quiet_step (fail))
    refine wpQuiet_nil ?_
    refine wpS_nil ?_
    refine then_normal ?_
    refine wp_ret ?_
    refine bodyPost_ret (results_tmp rfl _ _ _) rfl ?_
    rw [hc.out]
    exact does_ret (Mem.only (M := []) HM0.out [] rfl) rfl rfl
  · have hc : Hid (keyB s = false) := Lib.hid (by unfold keyB; exact decide_eq_false (by omega))
    have g1 : decide ((1 : Int) ≤ (s.size : Int)) = false := decide_eq_false (by omega)
    have g1' : decide (1 ≤ s.size) = false := decide_eq_false (by omega)
    have g2 : decide ((s.size : Int) ≤ 32) = true := decide_eq_true (by omega)
    have g2' : decide (s.size ≤ 32) = true := decide_eq_true (by omega)
    replace h1 := Lib.hid h1
    replace h2 := Lib.hid h2
    refine wp_region_N [(0, 1), (1, 1), (2, 1), (3, 1), (4, 1), (5, 1), (6, 1), (7, 1), (8, 1)] (by kernel_rfl) ?_
    refine wpS_this [0, 1, 2, 3, 4, 5, 6, 7, 8] rfl (by kernel_rfl) (by simp only [pickL, nthL, List.cons_append, List.nil_append]; rfl) ?_
    repeat (go_big_quiet_step (fail))
    refine wpQuiet_nil ?_
    refine wpS_nil ?_
    refine then_normal ?_
    refine wp_ret ?_
    refine bodyPost_ret (results_tmp rfl _ _ _) rfl ?_
    rw [hc.out]
    exact does_ret (Mem.only (M := []) HM0.out [] rfl) rfl rfl
  · have hc : Hid (keyB s = false) := Lib.hid (by unfold keyB; exact decide_eq_false (by omega))
    have g1 : decide ((1 : Int) ≤ (s.size : Int)) = false := decide_eq_false (by omega)
    have g1' : decide (1 ≤ s.size) = false := decide_eq_false (by omega)
    have g2 : decide ((s.size : Int) ≤ 32) = false := decide_eq_false (by omega)
    have g2' : decide (s.size ≤ 32) = false := decide_eq_false (by omega)
    replace h1 := Lib.hid h1
    replace h2 := Lib.hid h2
    refine wp_region_N [(0, 1), (1, 1), (2, 1), (3, 1), (4, 1), (5, 1), (6, 1), (7, 1), (8, 1)] (by kernel_rfl) ?_
    refine wpS_this [0, 1, 2, 3, 4, 5, 6, 7, 8] rfl (by kernel_rfl) (by simp only [pickL, nthL, List.cons_append, List.nil_append]; rfl) ?_
    repeat (go_big_quiet_step (fail))
    refine wpQuiet_nil ?_
    refine wpS_nil ?_
    refine then_normal ?_
    refine wp_ret ?_
    refine bodyPost_ret (results_tmp rfl _ _ _) rfl ?_
    rw [hc.out]
    exact does_ret (Mem.only (M := []) HM0.out [] rfl) rfl rfl

set_option maxHeartbeats 4000000 in
set_option maxRecDepth 100000 in
theorem rsameB_d (R : At) (sa : Value) (a : Bg) (ha : Reads elemV R sa a.v) (la : a.v.length ≤ 4398046510976) (sb : Value) (b : Bg) (hb : Reads elemV R sb b.v) (_lb : b.v.length ≤ 4398046510976) : Does Try.prog 41 #[bgV a.k sa, bgV b.k sb] [R] (.bool (sameB a b)) [R] := by
  intro w H hp
  have HM0 := Lib.hid (mem_refl hp)
  clear hp
  obtain ⟨pa, ca, rfl⟩ := row_form (Mem.src HM0.out 0 rfl ha)
  obtain ⟨pb, cb, rfl⟩ := row_form (Mem.src HM0.out 0 rfl hb)
  go_enter Try.func41, Try.ntmps41
  refine wp_seq ?_
  refine wp_region_N [(0, 3), (1, 3), (2, 1)] (by kernel_rfl) ?_
  refine wpS_boxA (i := 0) (dd := 2) rfl (by rfl) rfl rfl HM0.out covS_nil rfl ?_
  rintro b3 W2 hm1 -
  have HM4 := Lib.hid hm1
  clear hm1
  simp only [Act.put, List.setIfInBounds_toArray, List.set_cons_succ, List.set_cons_zero]
  refine wpS_boxA (i := 1) (dd := 3) rfl (by rfl) rfl rfl HM4.out covS_nil rfl ?_
  rintro b7 W6 hm5 -
  have HM8 := Lib.hid hm5
  clear hm5
  simp only [Act.put, List.setIfInBounds_toArray, List.set_cons_succ, List.set_cons_zero]
  refine wpS_this [2] rfl (by kernel_rfl) (by simp only [pickL, nthL, List.cons_append, List.nil_append]; rfl) ?_
  repeat (go_big_quiet_step (fail))
  refine wpQuiet_nil ?_
  refine wpS_nil ?_
  refine then_normal ?_
  refine wp_seq ?_
  refine wp_seq ?_
  rcases (show decide (tab8 a.k = tab8 b.k) = false ∨ (decide (tab8 a.k = tab8 b.k) = true ∧ ¬ a.v.length = b.v.length) ∨ (decide (tab8 a.k = tab8 b.k) = true ∧ a.v.length = b.v.length) from by cases decide (tab8 a.k = tab8 b.k) <;> by_cases h : a.v.length = b.v.length <;> simp [h]) with hq | ⟨hq, hl0⟩ | ⟨hq, hl0⟩
  · replace hq := Lib.hid hq
    refine wp_region_N [(0, 1), (1, 1), (2, 1), (3, 1), (4, 1), (5, 1), (6, 1), (7, 1), (8, 1), (9, 1), (10, 1), (11, 1), (12, 1), (13, 1)] (by kernel_rfl) ?_
    refine wpS_this [0] rfl (by kernel_rfl) (by simp only [pickL, nthL, List.cons_append, List.nil_append]; rfl) ?_
    repeat (go_big_quiet_step (fail))
    refine wpQuiet_nil ?_
    refine wpS_loadA (i := 1) (d := some 7) (cells := vcC (a.k)) rfl (by rfl) rfl rfl (HM8.out.part 1 rfl (bgC_vc)) Try.underlying30 rfl (by kernel_rfl) rfl ?_
    simp only [Act.put, List.setIfInBounds_toArray, List.set_cons_succ, List.set_cons_zero]
    refine wpS_this [2] rfl (by kernel_rfl) (by simp only [pickL, nthL, List.cons_append, List.nil_append]; rfl) ?_
    repeat (go_big_quiet_step (fail))
    refine wpQuiet_nil ?_
    refine wpS_loadA (i := 3) (d := some 9) (cells := vcC (b.k)) rfl (by rfl) rfl rfl (HM8.out.part 0 rfl (bgC_vc)) Try.underlying30 rfl (by kernel_rfl) rfl ?_
    simp only [Act.put, List.setIfInBounds_toArray, List.set_cons_succ, List.set_cons_zero]
    refine wpS_read (i := 4) (d := some 10) rfl (by rfl) (run_neV (f := a.k) (g := b.k) (b := true) (by rw [hq.out]; rfl) rfl rfl rfl) rfl ?_
    simp only [Act.put, List.setIfInBounds_toArray, List.set_cons_succ, List.set_cons_zero]
    refine wpS_this [5, 6] rfl (by kernel_rfl) (by simp only [pickL, nthL, List.cons_append, List.nil_append]; rfl) ?_
    repeat (go_big_quiet_step (fail))
    refine wpQuiet_nil ?_
    refine wpS_skip (i := 7) (d := some 13) rfl (by rfl) rfl ?_
    simp only [Act.put, List.setIfInBounds_toArray, List.set_cons_succ, List.set_cons_zero]
    refine wpS_this [8, 9] rfl (by kernel_rfl) (by simp only [pickL, nthL, List.cons_append, List.nil_append]; rfl) ?_
    repeat (go_big_quiet_step (fail))
    refine wpQuiet_nil ?_
    refine wpS_skip (i := 10) (d := some 16) rfl (by rfl) rfl ?_
    simp only [Act.put, List.setIfInBounds_toArray, List.set_cons_succ, List.set_cons_zero]
    refine wpS_this [11, 12, 13] rfl (by kernel_rfl) (by simp only [pickL, nthL, List.cons_append, List.nil_append]; rfl) ?_
    repeat (go_big_quiet_step (fail))
    refine wpQuiet_nil ?_
    refine wpS_nil ?_
    refine then_normal ?_
    refine wp_cond_true rfl ?_
    refine wp_seq ?_
    refine wp_region_N [(0, 1)] (by kernel_rfl) ?_
    refine wpS_this [0] rfl (by kernel_rfl) (by simp only [pickL, nthL, List.cons_append, List.nil_append]; rfl) ?_
    repeat (go_big_quiet_step (fail))
    refine wpQuiet_nil ?_
    refine wpS_nil ?_
    refine then_normal ?_
    refine wp_ret ?_
    refine then_ret ?_
    refine bodyPost_ret (results_tmp rfl _ _ _) rfl ?_
    rw [show sameB a b = false from by unfold sameB; rw [hq.out]; rfl]
    exact does_ret (Mem.only (M := [_]) HM8.out [2] rfl) rfl rfl
  · replace hq := Lib.hid hq
    have g1 : ((a.v.length : Int) != (b.v.length : Int)) = true := bne_iff_ne.2 (by omega)
    have g1' : (a.v.length != b.v.length) = true := bne_iff_ne.2 hl0
    have hne := Lib.hid hl0
    clear hl0
    refine wp_region_N [(0, 1), (1, 1), (2, 1), (3, 1), (4, 1), (5, 1), (6, 1), (7, 1), (8, 1), (9, 1), (10, 1), (11, 1), (12, 1), (13, 1)] (by kernel_rfl) ?_
    refine wpS_this [0] rfl (by kernel_rfl) (by simp only [pickL, nthL, List.cons_append, List.nil_append]; rfl) ?_
    repeat (go_big_quiet_step (fail))
    refine wpQuiet_nil ?_
    refine wpS_loadA (i := 1) (d := some 7) (cells := vcC (a.k)) rfl (by rfl) rfl rfl (HM8.out.part 1 rfl (bgC_vc)) Try.underlying30 rfl (by kernel_rfl) rfl ?_
    simp only [Act.put, List.setIfInBounds_toArray, List.set_cons_succ, List.set_cons_zero]
    refine wpS_this [2] rfl (by kernel_rfl) (by simp only [pickL, nthL, List.cons_append, List.nil_append]; rfl) ?_
    repeat (go_big_quiet_step (fail))
    refine wpQuiet_nil ?_
    refine wpS_loadA (i := 3) (d := some 9) (cells := vcC (b.k)) rfl (by rfl) rfl rfl (HM8.out.part 0 rfl (bgC_vc)) Try.underlying30 rfl (by kernel_rfl) rfl ?_
    simp only [Act.put, List.setIfInBounds_toArray, List.set_cons_succ, List.set_cons_zero]
    refine wpS_read (i := 4) (d := some 10) rfl (by rfl) (run_neV (f := a.k) (g := b.k) (b := false) (by rw [hq.out]; rfl) rfl rfl rfl) rfl ?_
    simp only [Act.put, List.setIfInBounds_toArray, List.set_cons_succ, List.set_cons_zero]
    refine wpS_this [5, 6] rfl (by kernel_rfl) (by simp only [pickL, nthL, List.cons_append, List.nil_append]; rfl) ?_
    repeat (go_big_quiet_step (fail))
    refine wpQuiet_nil ?_
    refine wpS_load1 (i := 7) (d := some 13) (u := .slice pa a.v.length ca) rfl (by rfl) rfl rfl (HM8.out.part1 1 rfl bgC_sl) Try.underlying31 rfl rfl ?_
    simp only [Act.put, List.setIfInBounds_toArray, List.set_cons_succ, List.set_cons_zero]
    refine wpS_this [8, 9] rfl (by kernel_rfl) (by simp only [pickL, nthL, List.cons_append, List.nil_append]; rfl) ?_
    repeat (go_big_quiet_step (fail))
    refine wpQuiet_nil ?_
    refine wpS_load1 (i := 10) (d := some 16) (u := .slice pb b.v.length cb) rfl (by rfl) rfl rfl (HM8.out.part1 0 rfl bgC_sl) Try.underlying31 rfl rfl ?_
    simp only [Act.put, List.setIfInBounds_toArray, List.set_cons_succ, List.set_cons_zero]
    refine wpS_this [11, 12, 13] rfl (by kernel_rfl) (by simp only [pickL, nthL, List.cons_append, List.nil_append]; rfl) ?_
    repeat (go_big_quiet_step (fail))
    refine wpQuiet_nil ?_
    refine wpS_nil ?_
    refine then_normal ?_
    refine wp_cond_true rfl ?_
    refine wp_seq ?_
    refine wp_region_N [(0, 1)] (by kernel_rfl) ?_
    refine wpS_this [0] rfl (by kernel_rfl) (by simp only [pickL, nthL, List.cons_append, List.nil_append]; rfl) ?_
    repeat (go_big_quiet_step (fail))
    refine wpQuiet_nil ?_
    refine wpS_nil ?_
    refine then_normal ?_
    refine wp_ret ?_
    refine then_ret ?_
    refine bodyPost_ret (results_tmp rfl _ _ _) rfl ?_
    rw [show sameB a b = false from by unfold sameB; rw [show decide (a.v = b.v) = false from decide_eq_false fun h => hne.out (by rw [h]), Bool.and_false]]
    exact does_ret (Mem.only (M := [_]) HM8.out [2] rfl) rfl rfl
  · replace hq := Lib.hid hq
    have g1 : ((a.v.length : Int) != (b.v.length : Int)) = false := by rw [hl0]; exact bne_self_eq_false _
    have g1' : (a.v.length != b.v.length) = false := by rw [hl0]; exact bne_self_eq_false _
    have hlen := Lib.hid hl0
    clear hl0
    refine wp_region_N [(0, 1), (1, 1), (2, 1), (3, 1), (4, 1), (5, 1), (6, 1), (7, 1), (8, 1), (9, 1), (10, 1), (11, 1), (12, 1), (13, 1)] (by kernel_rfl) ?_
    refine wpS_this [0] rfl (by kernel_rfl) (by simp only [pickL, nthL, List.cons_append, List.nil_append]; rfl) ?_
    repeat (go_big_quiet_step (fail))
    refine wpQuiet_nil ?_
    refine wpS_loadA (i := 1) (d := some 7) (cells := vcC (a.k)) rfl (by rfl) rfl rfl (HM8.out.part 1 rfl (bgC_vc)) Try.underlying30 rfl (by kernel_rfl) rfl ?_
    simp only [Act.put, List.setIfInBounds_toArray, List.set_cons_succ, List.set_cons_zero]
    refine wpS_this [2] rfl (by kernel_rfl) (by simp only [pickL, nthL, List.cons_append, List.nil_append]; rfl) ?_
    repeat (go_big_quiet_step (fail))
    refine wpQuiet_nil ?_
    refine wpS_loadA (i := 3) (d := some 9) (cells := vcC (b.k)) rfl (by rfl) rfl rfl (HM8.out.part 0 rfl (bgC_vc)) Try.underlying30 rfl (by kernel_rfl) rfl ?_
    simp only [Act.put, List.setIfInBounds_toArray, List.set_cons_succ, List.set_cons_zero]
    refine wpS_read (i := 4) (d := some 10) rfl (by rfl) (run_neV (f := a.k) (g := b.k) (b := false) (by rw [hq.out]; rfl) rfl rfl rfl) rfl ?_
    simp only [Act.put, List.setIfInBounds_toArray, List.set_cons_succ, List.set_cons_zero]
    refine wpS_this [5, 6] rfl (by kernel_rfl) (by simp only [pickL, nthL, List.cons_append, List.nil_append]; rfl) ?_
    repeat (go_big_quiet_step (fail))
    refine wpQuiet_nil ?_
    refine wpS_load1 (i := 7) (d := some 13) (u := .slice pa a.v.length ca) rfl (by rfl) rfl rfl (HM8.out.part1 1 rfl bgC_sl) Try.underlying31 rfl rfl ?_
    simp only [Act.put, List.setIfInBounds_toArray, List.set_cons_succ, List.set_cons_zero]
    refine wpS_this [8, 9] rfl (by kernel_rfl) (by simp only [pickL, nthL, List.cons_append, List.nil_append]; rfl) ?_
    repeat (go_big_quiet_step (fail))
    refine wpQuiet_nil ?_
    refine wpS_load1 (i := 10) (d := some 16) (u := .slice pb b.v.length cb) rfl (by rfl) rfl rfl (HM8.out.part1 0 rfl bgC_sl) Try.underlying31 rfl rfl ?_
    simp only [Act.put, List.setIfInBounds_toArray, List.set_cons_succ, List.set_cons_zero]
    refine wpS_this [11, 12, 13] rfl (by kernel_rfl) (by simp only [pickL, nthL, List.cons_append, List.nil_append]; rfl) ?_
    repeat (go_big_quiet_step (fail))
    refine wpQuiet_nil ?_
    refine wpS_nil ?_
    refine then_normal ?_
    refine wp_cond_false rfl ?_
    refine wp_skip ?_
    refine then_normal ?_
    refine wp_seq ?_
    refine wp_seq ?_
    refine wp_region_N [(0, 1), (1, 1), (2, 1), (3, 1)] (by kernel_rfl) ?_
    refine wpS_this [0] rfl (by kernel_rfl) (by simp only [pickL, nthL, List.cons_append, List.nil_append]; rfl) ?_
    repeat (go_big_quiet_step (fail))
    refine wpQuiet_nil ?_
    refine wpS_load1 (i := 1) (d := some 21) (u := .slice pa a.v.length ca) rfl (by rfl) rfl rfl (HM8.out.part1 1 rfl bgC_sl) Try.underlying31 rfl rfl ?_
    simp only [Act.put, List.setIfInBounds_toArray, List.set_cons_succ, List.set_cons_zero]
    refine wpS_this [2, 3] rfl (by kernel_rfl) (by simp only [pickL, nthL, List.cons_append, List.nil_append]; rfl) ?_
    repeat (go_big_quiet_step (fail))
    refine wpQuiet_nil ?_
    refine wpS_nil ?_
    refine then_normal ?_
    refine wp_block ?_
    refine wp_loop_F [4, 5, 23, 24, 25, 26, 27, 28, 29, 30, 31, 32, 33, 34, 35, 36, 37] (fun n vs W' => ∃ k : Nat, n = a.v.length - k ∧ vs 23 = .int .i64 (k : Int) ∧ k ≤ a.v.length ∧ a.v.take k = b.v.take k ∧ Mem [boxT b3 (.cells (bgC a.k (.slice pa a.v.length ca)).toArray 33 (0, 0)), boxT b7 (.cells (bgC b.k (.slice pb b.v.length cb)).toArray 33 (0, 0)), R] H w W') (n0 := a.v.length) ?_ ?_
    · exact ⟨0, rfl, rfl, Nat.zero_le _, rfl, (Mem.only (M := [_, _, _]) HM8.out [1, 0, 0] rfl)⟩
    rintro n vs W' ⟨k, rfl, e23, hk, htk', hm⟩
    simp only [putAll, List.map_cons, List.map_nil, Act.put, List.setIfInBounds_toArray, List.set_cons_succ, List.set_cons_zero]
    rw [e23]
    clear e23
    have htk := Lib.hid htk'
    clear htk'
    have HM9 := Lib.hid hm
    clear hm
    refine wp_seq ?_
    refine wp_region_N [(0, 1)] (by kernel_rfl) ?_
    refine wpS_this [0] rfl (by kernel_rfl) (by simp only [pickL, nthL, List.cons_append, List.nil_append]; rfl) ?_
    repeat (go_big_quiet_step (fail))
    refine wpQuiet_nil ?_
    refine wpS_nil ?_
    refine then_normal ?_
    refine wp_seq ?_
    refine wp_cond_split rfl (fun h10 => ?_) (fun h10 => ?_)
    · have hk1 : k + 1 ≤ a.v.length := by have : (k : Int) < ((a.v.length : Nat) : Int) := (by simpa using h10); omega
      clear h10
      obtain ⟨x, hx'⟩ : ∃ y, a.v[k]? = some y := ⟨_, List.getElem?_eq_getElem (hk1)⟩
      have hx := Lib.hid hx'
      clear hx'
      obtain ⟨z, hz'⟩ : ∃ y, b.v[k]? = some y := ⟨_, List.getElem?_eq_getElem (by have := hlen.out; omega)⟩
      have hz := Lib.hid hz'
      clear hz'
      refine wp_skip ?_
      refine then_normal ?_
      refine wp_seq ?_
      refine wp_block ?_
      refine wp_seq ?_
      refine wp_region_N [(0, 1), (1, 1)] (by kernel_rfl) ?_
      refine wpS_this [0, 1] rfl (by kernel_rfl) (by simp only [pickL, nthL, List.cons_append, List.nil_append]; rfl) ?_
      repeat (go_big_quiet_step (fail))
      refine wpQuiet_nil ?_
      refine wpS_nil ?_
      refine then_normal ?_
      refine wp_seq ?_
      by_cases hq2 : x = z
      · have g2 : (!decide (x = z)) = false := by rw [decide_eq_true hq2]; rfl
        have hxz := Lib.hid hq2
        clear hq2
        refine wp_region_M (fun k => k ∈ ([b3, b7] : List Nat)) [(0, 1), (1, 1), (2, 1), (3, 1), (4, 1), (5, 1), (6, 1), (7, 1), (8, 1), (9, 1), (10, 1)] (by kernel_rfl) (by kernel_rfl) HM9.out ?_
        intro W11 hm12
        have HM13 := Lib.hid hm12
        clear hm12
        refine wpS_this [0] rfl (by kernel_rfl) (by simp only [pickL, nthL, List.cons_append, List.nil_append]; rfl) ?_
        repeat (go_big_quiet_step (fail))
        refine wpQuiet_nil ?_
        refine wpS_load1 (i := 1) (d := some 27) (u := .slice pa a.v.length ca) rfl (by rfl) rfl rfl (HM13.out.part1 0 rfl bgC_sl) Try.underlying31 rfl rfl ?_
        simp only [Act.put, List.setIfInBounds_toArray, List.set_cons_succ, List.set_cons_zero]
        refine wpS_this [2] rfl (by kernel_rfl) (by simp only [pickL, nthL, List.cons_append, List.nil_append]; rfl) ?_
        repeat (go_big_quiet_step (fail))
        refine wpQuiet_nil ?_
        refine wpS_index (E := elemV) (i := 3) (d := some 29) rfl (by rfl) rfl rfl rfl (HM13.out.row 2 rfl (fun W H h => rowAt_src (ha W H h))) (hx.out) rfl ?_
        intro eb14 eo15 hc16
        simp only [Act.put, List.setIfInBounds_toArray, List.set_cons_succ, List.set_cons_zero]
        refine wpS_loadA (i := 4) (d := some 30) (cells := [.int .i64 x.1.1, .int .i64 x.1.2, .string x.2]) rfl (by rfl) rfl rfl hc16 Try.underlying66 rfl (by kernel_rfl) rfl ?_
        simp only [Act.put, List.setIfInBounds_toArray, List.set_cons_succ, List.set_cons_zero]
        refine wpS_this [5] rfl (by kernel_rfl) (by simp only [pickL, nthL, List.cons_append, List.nil_append]; rfl) ?_
        repeat (go_big_quiet_step (fail))
        refine wpQuiet_nil ?_
        refine wpS_load1 (i := 6) (d := some 32) (u := .slice pb b.v.length cb) rfl (by rfl) rfl rfl (HM13.out.part1 1 rfl bgC_sl) Try.underlying31 rfl rfl ?_
        simp only [Act.put, List.setIfInBounds_toArray, List.set_cons_succ, List.set_cons_zero]
        refine wpS_this [7] rfl (by kernel_rfl) (by simp only [pickL, nthL, List.cons_append, List.nil_append]; rfl) ?_
        repeat (go_big_quiet_step (fail))
        refine wpQuiet_nil ?_
        refine wpS_index (E := elemV) (i := 8) (d := some 34) rfl (by rfl) rfl rfl rfl (HM13.out.row 2 rfl (fun W H h => rowAt_src (hb W H h))) (hz.out) rfl ?_
        intro eb17 eo18 hc19
        simp only [Act.put, List.setIfInBounds_toArray, List.set_cons_succ, List.set_cons_zero]
        refine wpS_loadA (i := 9) (d := some 35) (cells := [.int .i64 z.1.1, .int .i64 z.1.2, .string z.2]) rfl (by rfl) rfl rfl hc19 Try.underlying66 rfl (by kernel_rfl) rfl ?_
        simp only [Act.put, List.setIfInBounds_toArray, List.set_cons_succ, List.set_cons_zero]
        refine wpS_read (i := 10) (d := some 36) rfl (by rfl) (run_neVl (p := x) (q := z) g2 rfl rfl rfl) rfl ?_
        simp only [Act.put, List.setIfInBounds_toArray, List.set_cons_succ, List.set_cons_zero]
        refine wpS_nil ?_
        refine then_normal ?_
        refine wp_cond_false rfl ?_
        refine wp_skip ?_
        refine block_normal ?_
        refine then_normal ?_
        refine wp_region_N [(0, 1), (1, 1)] (by kernel_rfl) ?_
        refine wpS_this [0, 1] rfl (by kernel_rfl) (by simp only [pickL, nthL, List.cons_append, List.nil_append]; rfl) ?_
        repeat (go_big_quiet_step (fail))
        refine wpQuiet_nil ?_
        refine wpS_nil ?_
        refine then_normal ?_
        refine ⟨by kernel_rfl, ?_⟩
        refine ⟨a.v.length - (k + 1), by omega, k + 1, rfl, rfl, hk1, take_eq_step htk.out hx.out (by rw [hz.out]; exact hxz.out.symm ▸ rfl), (Mem.only (M := [_, _, _]) HM13.out [0, 0, 0] rfl)⟩
      · have g2 : (!decide (x = z)) = true := by rw [decide_eq_false hq2]; rfl
        have hxz := Lib.hid hq2
        clear hq2
        refine wp_region_M (fun k => k ∈ ([b3, b7] : List Nat)) [(0, 1), (1, 1), (2, 1), (3, 1), (4, 1), (5, 1), (6, 1), (7, 1), (8, 1), (9, 1), (10, 1)] (by kernel_rfl) (by kernel_rfl) HM9.out ?_
        intro W20 hm21
        have HM22 := Lib.hid hm21
        clear hm21
        refine wpS_this [0] rfl (by kernel_rfl) (by simp only [pickL, nthL, List.cons_append, List.nil_append]; rfl) ?_
        repeat (go_big_quiet_step (fail))
        refine wpQuiet_nil ?_
        refine wpS_load1 (i := 1) (d := some 27) (u := .slice pa a.v.length ca) rfl (by rfl) rfl rfl (HM22.out.part1 0 rfl bgC_sl) Try.underlying31 rfl rfl ?_
        simp only [Act.put, List.setIfInBounds_toArray, List.set_cons_succ, List.set_cons_zero]
        refine wpS_this [2] rfl (by kernel_rfl) (by simp only [pickL, nthL, List.cons_append, List.nil_append]; rfl) ?_
        repeat (go_big_quiet_step (fail))
        refine wpQuiet_nil ?_
        refine wpS_index (E := elemV) (i := 3) (d := some 29) rfl (by rfl) rfl rfl rfl (HM22.out.row 2 rfl (fun W H h => rowAt_src (ha W H h))) (hx.out) rfl ?_
        intro eb23 eo24 hc25
        simp only [Act.put, List.setIfInBounds_toArray, List.set_cons_succ, List.set_cons_zero]
        refine wpS_loadA (i := 4) (d := some 30) (cells := [.int .i64 x.1.1, .int .i64 x.1.2, .string x.2]) rfl (by rfl) rfl rfl hc25 Try.underlying66 rfl (by kernel_rfl) rfl ?_
        simp only [Act.put, List.setIfInBounds_toArray, List.set_cons_succ, List.set_cons_zero]
        refine wpS_this [5] rfl (by kernel_rfl) (by simp only [pickL, nthL, List.cons_append, List.nil_append]; rfl) ?_
        repeat (go_big_quiet_step (fail))
        refine wpQuiet_nil ?_
        refine wpS_load1 (i := 6) (d := some 32) (u := .slice pb b.v.length cb) rfl (by rfl) rfl rfl (HM22.out.part1 1 rfl bgC_sl) Try.underlying31 rfl rfl ?_
        simp only [Act.put, List.setIfInBounds_toArray, List.set_cons_succ, List.set_cons_zero]
        refine wpS_this [7] rfl (by kernel_rfl) (by simp only [pickL, nthL, List.cons_append, List.nil_append]; rfl) ?_
        repeat (go_big_quiet_step (fail))
        refine wpQuiet_nil ?_
        refine wpS_index (E := elemV) (i := 8) (d := some 34) rfl (by rfl) rfl rfl rfl (HM22.out.row 2 rfl (fun W H h => rowAt_src (hb W H h))) (hz.out) rfl ?_
        intro eb26 eo27 hc28
        simp only [Act.put, List.setIfInBounds_toArray, List.set_cons_succ, List.set_cons_zero]
        refine wpS_loadA (i := 9) (d := some 35) (cells := [.int .i64 z.1.1, .int .i64 z.1.2, .string z.2]) rfl (by rfl) rfl rfl hc28 Try.underlying66 rfl (by kernel_rfl) rfl ?_
        simp only [Act.put, List.setIfInBounds_toArray, List.set_cons_succ, List.set_cons_zero]
        refine wpS_read (i := 10) (d := some 36) rfl (by rfl) (run_neVl (p := x) (q := z) g2 rfl rfl rfl) rfl ?_
        simp only [Act.put, List.setIfInBounds_toArray, List.set_cons_succ, List.set_cons_zero]
        refine wpS_nil ?_
        refine then_normal ?_
        refine wp_cond_true rfl ?_
        refine wp_seq ?_
        refine wp_region_N [(0, 1)] (by kernel_rfl) ?_
        refine wpS_this [0] rfl (by kernel_rfl) (by simp only [pickL, nthL, List.cons_append, List.nil_append]; rfl) ?_
        repeat (go_big_quiet_step (fail))
        refine wpQuiet_nil ?_
        refine wpS_nil ?_
        refine then_normal ?_
        refine wp_ret ?_
        refine block_ret (then_ret (then_ret (block_ret (then_ret ?_))))
        refine bodyPost_ret (results_tmp rfl _ _ _) rfl ?_
        rw [show sameB a b = false from by unfold sameB; rw [show decide (a.v = b.v) = false from decide_eq_false fun h => hxz.out (by have h1 := hx.out; rw [h, hz.out] at h1; exact (Option.some.inj h1).symm), Bool.and_false]]
        exact does_ret (Mem.only (M := [_]) HM22.out [2] rfl) rfl rfl
    · have hge : Hid (a.v.length ≤ k) := Lib.hid (by have : ¬ (k : Int) < ((a.v.length : Nat) : Int) := (by simpa using h10); omega)
      clear h10
      refine wp_exit ?_
      refine then_exit (then_exit (block_exit ?_))
      refine then_normal ?_
      refine wp_seq ?_
      refine wp_region_N [(0, 1)] (by kernel_rfl) ?_
      refine wpS_this [0] rfl (by kernel_rfl) (by simp only [pickL, nthL, List.cons_append, List.nil_append]; rfl) ?_
      repeat (go_big_quiet_step (fail))
      refine wpQuiet_nil ?_
      refine wpS_nil ?_
      refine then_normal ?_
      refine wp_ret ?_
      refine bodyPost_ret (results_tmp rfl _ _ _) rfl ?_
      rw [show sameB a b = true from by unfold sameB; rw [hq.out, show decide (a.v = b.v) = true from decide_eq_true (by have h1 := htk.out; rw [List.take_of_length_le hge.out, List.take_of_length_le (by rw [← hlen.out]; exact hge.out)] at h1; exact h1)]; rfl]
      exact does_ret (Mem.only (M := [_]) HM9.out [2] rfl) rfl rfl

theorem rmay_ways {a : Bg} {k : Nat} {y : Vl} (hk1 : k + 1 ≤ a.v.length) : hasV a.k y.1 = false ∨ (hasV a.k y.1 = true ∧ 64 < y.2.size) ∨ (hasV a.k y.1 = true ∧ ¬ 64 < y.2.size ∧ k = 0) ∨ (hasV a.k y.1 = true ∧ ¬ 64 < y.2.size ∧ ∃ j u, k = j + 1 ∧ a.v[j]? = some u ∧ cmpE u.1 y.1 < 0) ∨ (hasV a.k y.1 = true ∧ ¬ 64 < y.2.size ∧ ∃ j u, k = j + 1 ∧ a.v[j]? = some u ∧ ¬ cmpE u.1 y.1 < 0) := by
  cases hasV a.k y.1
  · exact .inl rfl
  · by_cases h : 64 < y.2.size
    · exact .inr (.inl ⟨rfl, h⟩)
    · cases k with
      | zero => exact .inr (.inr (.inl ⟨rfl, h, rfl⟩))
      | succ j =>
        have hu : a.v[j]? = some a.v[j] := List.getElem?_eq_getElem (by omega)
        by_cases h2 : cmpE a.v[j].1 y.1 < 0
        · exact .inr (.inr (.inr (.inl ⟨rfl, h, j, _, rfl, hu, h2⟩)))
        · exact .inr (.inr (.inr (.inr ⟨rfl, h, j, _, rfl, hu, h2⟩)))
set_option maxHeartbeats 4000000 in
set_option maxRecDepth 100000 in
theorem rmayB_d (R : At) (sa : Value) (a : Bg) (ha : Reads elemV R sa a.v) (la : a.v.length ≤ 4398046510976) : Does Try.prog 38 #[bgV a.k sa] [R] (.bool (mayB a)) [R] := by
  intro w H hp
  have HM0 := Lib.hid (mem_refl hp)
  clear hp
  obtain ⟨pa, ca, rfl⟩ := row_form (Mem.src HM0.out 0 rfl ha)
  go_enter Try.func38, Try.ntmps38
  refine wp_seq ?_
  refine wp_region_N [(0, 3), (1, 1)] (by kernel_rfl) ?_
  refine wpS_boxA (i := 0) (dd := 1) rfl (by rfl) rfl rfl HM0.out covS_nil rfl ?_
  rintro b3 W2 hm1 -
  have HM4 := Lib.hid hm1
  clear hm1
  simp only [Act.put, List.setIfInBounds_toArray, List.set_cons_succ, List.set_cons_zero]
  refine wpS_this [1] rfl (by kernel_rfl) (by simp only [pickL, nthL, List.cons_append, List.nil_append]; rfl) ?_
  repeat (go_big_quiet_step (fail))
  refine wpQuiet_nil ?_
  refine wpS_nil ?_
  refine then_normal ?_
  refine wp_seq ?_
  refine wp_seq ?_
  rcases (show mayV a.k = false ∨ (mayV a.k = true ∧ ¬ a.v.length ≤ 32) ∨ (mayV a.k = true ∧ a.v.length ≤ 32) from by cases mayV a.k <;> by_cases h : a.v.length ≤ 32 <;> simp [h]) with hm1 | ⟨hm1, hm2⟩ | ⟨hm1, hm2⟩
  · replace hm1 := Lib.hid hm1
    refine wp_region_N [(0, 1), (1, 1), (2, 3), (3, 1), (4, 1), (5, 1), (6, 1), (7, 1), (8, 1), (9, 1)] (by kernel_rfl) ?_
    refine wpS_this [0] rfl (by kernel_rfl) (by simp only [pickL, nthL, List.cons_append, List.nil_append]; rfl) ?_
    repeat (go_big_quiet_step (fail))
    refine wpQuiet_nil ?_
    refine wpS_loadA (i := 1) (d := some 6) (cells := vcC (a.k)) rfl (by rfl) rfl rfl (HM4.out.part 0 rfl (bgC_vc)) Try.underlying30 rfl (by kernel_rfl) rfl ?_
    simp only [Act.put, List.setIfInBounds_toArray, List.set_cons_succ, List.set_cons_zero]
    refine wpS_does1 (i := 2) (d := some 7) (rem := [_, _]) (out := [_, _]) rfl (by rfl) rfl Try.call55 (rvmay_d a.k) rfl HM4.out [] rfl covS_nil rfl rfl ?_
    rintro W6 hm5 -
    rw [hm1.out]
    have HM7 := Lib.hid hm5
    clear hm5
    simp only [Act.put, List.setIfInBounds_toArray, List.set_cons_succ, List.set_cons_zero]
    refine wpS_this [3, 4, 5] rfl (by kernel_rfl) (by simp only [pickL, nthL, List.cons_append, List.nil_append]; rfl) ?_
    repeat (go_big_quiet_step (fail))
    refine wpQuiet_nil ?_
    refine wpS_skip (i := 6) (d := some 11) rfl (by rfl) rfl ?_
    simp only [Act.put, List.setIfInBounds_toArray, List.set_cons_succ, List.set_cons_zero]
    refine wpS_this [7, 8, 9] rfl (by kernel_rfl) (by simp only [pickL, nthL, List.cons_append, List.nil_append]; rfl) ?_
    repeat (go_big_quiet_step (fail))
    refine wpQuiet_nil ?_
    refine wpS_nil ?_
    refine then_normal ?_
    refine wp_cond_true rfl ?_
    refine wp_seq ?_
    refine wp_region_N [(0, 1)] (by kernel_rfl) ?_
    refine wpS_this [0] rfl (by kernel_rfl) (by simp only [pickL, nthL, List.cons_append, List.nil_append]; rfl) ?_
    repeat (go_big_quiet_step (fail))
    refine wpQuiet_nil ?_
    refine wpS_nil ?_
    refine then_normal ?_
    refine wp_ret ?_
    refine then_ret ?_
    refine bodyPost_ret (results_tmp rfl _ _ _) rfl ?_
    rw [mayB_no1 hm1.out]
    exact does_ret (Mem.only (M := [_]) HM7.out [1] rfl) rfl rfl
  · have g1 : decide ((32 : Int) < (a.v.length : Int)) = true := decide_eq_true (by omega)
    have g1' : decide (32 < a.v.length) = true := decide_eq_true (by omega)
    replace hm1 := Lib.hid hm1
    replace hm2 := Lib.hid hm2
    refine wp_region_N [(0, 1), (1, 1), (2, 3), (3, 1), (4, 1), (5, 1), (6, 1), (7, 1), (8, 1), (9, 1)] (by kernel_rfl) ?_
    refine wpS_this [0] rfl (by kernel_rfl) (by simp only [pickL, nthL, List.cons_append, List.nil_append]; rfl) ?_
    repeat (go_big_quiet_step (fail))
    refine wpQuiet_nil ?_
    refine wpS_loadA (i := 1) (d := some 6) (cells := vcC (a.k)) rfl (by rfl) rfl rfl (HM4.out.part 0 rfl (bgC_vc)) Try.underlying30 rfl (by kernel_rfl) rfl ?_
    simp only [Act.put, List.setIfInBounds_toArray, List.set_cons_succ, List.set_cons_zero]
    refine wpS_does1 (i := 2) (d := some 7) (rem := [_, _]) (out := [_, _]) rfl (by rfl) rfl Try.call55 (rvmay_d a.k) rfl HM4.out [] rfl covS_nil rfl rfl ?_
    rintro W9 hm8 -
    rw [hm1.out]
    have HM10 := Lib.hid hm8
    clear hm8
    simp only [Act.put, List.setIfInBounds_toArray, List.set_cons_succ, List.set_cons_zero]
    refine wpS_this [3, 4, 5] rfl (by kernel_rfl) (by simp only [pickL, nthL, List.cons_append, List.nil_append]; rfl) ?_
    repeat (go_big_quiet_step (fail))
    refine wpQuiet_nil ?_
    refine wpS_load1 (i := 6) (d := some 11) (u := .slice pa a.v.length ca) rfl (by rfl) rfl rfl (HM10.out.part1 0 rfl bgC_sl) Try.underlying31 rfl rfl ?_
    simp only [Act.put, List.setIfInBounds_toArray, List.set_cons_succ, List.set_cons_zero]
    refine wpS_this [7, 8, 9] rfl (by kernel_rfl) (by simp only [pickL, nthL, List.cons_append, List.nil_append]; rfl) ?_
    repeat (go_big_quiet_step (fail))
    refine wpQuiet_nil ?_
    refine wpS_nil ?_
    refine then_normal ?_
    refine wp_cond_true rfl ?_
    refine wp_seq ?_
    refine wp_region_N [(0, 1)] (by kernel_rfl) ?_
    refine wpS_this [0] rfl (by kernel_rfl) (by simp only [pickL, nthL, List.cons_append, List.nil_append]; rfl) ?_
    repeat (go_big_quiet_step (fail))
    refine wpQuiet_nil ?_
    refine wpS_nil ?_
    refine then_normal ?_
    refine wp_ret ?_
    refine then_ret ?_
    refine bodyPost_ret (results_tmp rfl _ _ _) rfl ?_
    rw [mayB_no2 hm2.out]
    exact does_ret (Mem.only (M := [_]) HM10.out [1] rfl) rfl rfl
  · have g1 : decide ((32 : Int) < (a.v.length : Int)) = false := decide_eq_false (by omega)
    have g1' : decide (32 < a.v.length) = false := decide_eq_false (by omega)
    replace hm1 := Lib.hid hm1
    replace hm2 := Lib.hid hm2
    refine wp_region_N [(0, 1), (1, 1), (2, 3), (3, 1), (4, 1), (5, 1), (6, 1), (7, 1), (8, 1), (9, 1)] (by kernel_rfl) ?_
    refine wpS_this [0] rfl (by kernel_rfl) (by simp only [pickL, nthL, List.cons_append, List.nil_append]; rfl) ?_
    repeat (go_big_quiet_step (fail))
    refine wpQuiet_nil ?_
    refine wpS_loadA (i := 1) (d := some 6) (cells := vcC (a.k)) rfl (by rfl) rfl rfl (HM4.out.part 0 rfl (bgC_vc)) Try.underlying30 rfl (by kernel_rfl) rfl ?_
    simp only [Act.put, List.setIfInBounds_toArray, List.set_cons_succ, List.set_cons_zero]
    refine wpS_does1 (i := 2) (d := some 7) (rem := [_, _]) (out := [_, _]) rfl (by rfl) rfl Try.call55 (rvmay_d a.k) rfl HM4.out [] rfl covS_nil rfl rfl ?_
    rintro W12 hm11 -
    rw [hm1.out]
    have HM13 := Lib.hid hm11
    clear hm11
    simp only [Act.put, List.setIfInBounds_toArray, List.set_cons_succ, List.set_cons_zero]
    refine wpS_this [3, 4, 5] rfl (by kernel_rfl) (by simp only [pickL, nthL, List.cons_append, List.nil_append]; rfl) ?_
    repeat (go_big_quiet_step (fail))
    refine wpQuiet_nil ?_
    refine wpS_load1 (i := 6) (d := some 11) (u := .slice pa a.v.length ca) rfl (by rfl) rfl rfl (HM13.out.part1 0 rfl bgC_sl) Try.underlying31 rfl rfl ?_
    simp only [Act.put, List.setIfInBounds_toArray, List.set_cons_succ, List.set_cons_zero]
    refine wpS_this [7, 8, 9] rfl (by kernel_rfl) (by simp only [pickL, nthL, List.cons_append, List.nil_append]; rfl) ?_
    repeat (go_big_quiet_step (fail))
    refine wpQuiet_nil ?_
    refine wpS_nil ?_
    refine then_normal ?_
    refine wp_cond_false rfl ?_
    refine wp_skip ?_
    refine then_normal ?_
    refine wp_seq ?_
    refine wp_seq ?_
    refine wp_region_N [(0, 1), (1, 1), (2, 1), (3, 1)] (by kernel_rfl) ?_
    refine wpS_this [0] rfl (by kernel_rfl) (by simp only [pickL, nthL, List.cons_append, List.nil_append]; rfl) ?_
    repeat (go_big_quiet_step (fail))
    refine wpQuiet_nil ?_
    refine wpS_load1 (i := 1) (d := some 16) (u := .slice pa a.v.length ca) rfl (by rfl) rfl rfl (HM13.out.part1 0 rfl bgC_sl) Try.underlying31 rfl rfl ?_
    simp only [Act.put, List.setIfInBounds_toArray, List.set_cons_succ, List.set_cons_zero]
    refine wpS_this [2, 3] rfl (by kernel_rfl) (by simp only [pickL, nthL, List.cons_append, List.nil_append]; rfl) ?_
    repeat (go_big_quiet_step (fail))
    refine wpQuiet_nil ?_
    refine wpS_nil ?_
    refine then_normal ?_
    refine wp_block ?_
    refine wp_loop_F [2, 3, 4, 18, 19, 20, 21, 22, 23, 24, 25, 26, 27, 28, 29, 30, 31, 32, 33, 34, 35, 36, 37, 38, 39, 40, 41, 42, 43, 44, 45, 46, 47, 48, 49, 50, 51, 52] (fun n vs W' => ∃ k : Nat, n = a.v.length - k ∧ vs 18 = .int .i64 (k : Int) ∧ k ≤ a.v.length ∧ OkT a k ∧ Mem [boxT b3 (.cells (bgC a.k (.slice pa a.v.length ca)).toArray 33 (0, 0)), R] H w W') (n0 := a.v.length) ?_ ?_
    · exact ⟨0, rfl, rfl, Nat.zero_le _, okT_zero a, (Mem.only (M := [_, _]) HM13.out [0, 0] rfl)⟩
    rintro n vs W' ⟨k, rfl, e18, hk, hok', hm⟩
    simp only [putAll, List.map_cons, List.map_nil, Act.put, List.setIfInBounds_toArray, List.set_cons_succ, List.set_cons_zero]
    rw [e18]
    clear e18
    have hok := Lib.hid hok'
    clear hok'
    have HM14 := Lib.hid hm
    clear hm
    refine wp_seq ?_
    refine wp_region_N [(0, 1)] (by kernel_rfl) ?_
    refine wpS_this [0] rfl (by kernel_rfl) (by simp only [pickL, nthL, List.cons_append, List.nil_append]; rfl) ?_
    repeat (go_big_quiet_step (fail))
    refine wpQuiet_nil ?_
    refine wpS_nil ?_
    refine then_normal ?_
    refine wp_seq ?_
    refine wp_cond_split rfl (fun h15 => ?_) (fun h15 => ?_)
    · have hk1 : k + 1 ≤ a.v.length := by have : (k : Int) < ((a.v.length : Nat) : Int) := (by simpa using h15); omega
      clear h15
      obtain ⟨y, hy'⟩ : ∃ y, a.v[k]? = some y := ⟨_, List.getElem?_eq_getElem (hk1)⟩
      have hy := Lib.hid hy'
      clear hy'
      refine wp_skip ?_
      refine then_normal ?_
      refine wp_seq ?_
      refine wp_block ?_
      refine wp_seq ?_
      refine wp_region_N [(0, 1), (1, 1), (2, 1), (3, 3), (4, 1), (5, 3)] (by kernel_rfl) ?_
      refine wpS_this [0] rfl (by kernel_rfl) (by simp only [pickL, nthL, List.cons_append, List.nil_append]; rfl) ?_
      repeat (go_big_quiet_step (fail))
      refine wpQuiet_nil ?_
      refine wpS_index (E := elemV) (i := 1) (d := some 21) rfl (by rfl) rfl rfl rfl (HM14.out.row 1 rfl (fun W H h => rowAt_src (ha W H h))) (hy.out) rfl ?_
      intro eb16 eo17 hc18
      simp only [Act.put, List.setIfInBounds_toArray, List.set_cons_succ, List.set_cons_zero]
      refine wpS_loadA (i := 2) (d := some 22) (cells := [.int .i64 y.1.1, .int .i64 y.1.2, .string y.2]) rfl (by rfl) rfl rfl hc18 Try.underlying66 rfl (by kernel_rfl) rfl ?_
      simp only [Act.put, List.setIfInBounds_toArray, List.set_cons_succ, List.set_cons_zero]
      refine wpS_alloc (i := 3) (dd := 4) (z := .agg #[.int .i64 0, .int .i64 0, .string ByteArray.empty]) (cs := #[.int .i64 0, .int .i64 0, .string ByteArray.empty]) rfl (by rfl) rfl (by kernel_rfl) rfl HM14.out covS_nil rfl ?_
      rintro b21 W20 hm19 -
      have HM22 := Lib.hid hm19
      clear hm19
      simp only [Act.put, List.setIfInBounds_toArray, List.set_cons_succ, List.set_cons_zero]
      refine wpS_this [4] rfl (by kernel_rfl) (by simp only [pickL, nthL, List.cons_append, List.nil_append]; rfl) ?_
      repeat (go_big_quiet_step (fail))
      refine wpQuiet_nil ?_
      refine wpS_storeA (i := 5) (L2 := [_, _]) (cs' := [.int .i64 y.1.1, .int .i64 y.1.2, .string y.2]) rfl (by rfl) rfl rfl rfl (by kernel_rfl) (by rfl) HM22.out 0 rfl rfl rfl rfl covS_nil rfl ?_
      rintro W24 hm23 -
      have HM25 := Lib.hid hm23
      clear hm23
      refine wpS_nil ?_
      refine then_normal ?_
      refine wp_seq ?_
      rcases (show hasV a.k y.1 = false ∨ (hasV a.k y.1 = true ∧ 64 < y.2.size) ∨ (hasV a.k y.1 = true ∧ ¬ 64 < y.2.size ∧ k = 0) ∨ (hasV a.k y.1 = true ∧ ¬ 64 < y.2.size ∧ ∃ j u, k = j + 1 ∧ a.v[j]? = some u ∧ cmpE u.1 y.1 < 0) ∨ (hasV a.k y.1 = true ∧ ¬ 64 < y.2.size ∧ ∃ j u, k = j + 1 ∧ a.v[j]? = some u ∧ ¬ cmpE u.1 y.1 < 0) from rmay_ways hk1) with hh | ⟨hh, hsz⟩ | ⟨hh, hsz, hk0⟩ | ⟨hh, hsz, j, u, rfl, hu', hneg⟩ | ⟨hh, hsz, j, u, rfl, hu', hneg⟩
      · have hhas : Hid (hasV a.k (y.1.1, y.1.2) = false) := Lib.hid hh
        have hoy : Hid (okV a.k y = false) := Lib.hid (by unfold okV; rw [hh]; rfl)
        clear hh
        refine wp_region_M (fun k => k ∈ ([b3, b21] : List Nat)) [(0, 1), (1, 1), (2, 1), (3, 1), (4, 3), (5, 1), (6, 1), (7, 1), (8, 1), (9, 1), (10, 1), (11, 1), (12, 1), (13, 1), (14, 1), (15, 1), (16, 1), (17, 1), (18, 1), (19, 1), (20, 1), (21, 1), (22, 1), (23, 1), (24, 1), (25, 3), (26, 1), (27, 1), (28, 1)] (by kernel_rfl) (by kernel_rfl) HM25.out ?_
        intro W26 hm27
        have HM28 := Lib.hid hm27
        clear hm27
        refine wpS_this [0] rfl (by kernel_rfl) (by simp only [pickL, nthL, List.cons_append, List.nil_append]; rfl) ?_
        repeat (go_big_quiet_step (fail))
        refine wpQuiet_nil ?_
        refine wpS_loadA (i := 1) (d := some 24) (cells := vcC (a.k)) rfl (by rfl) rfl rfl (HM28.out.part 1 rfl (bgC_vc)) Try.underlying30 rfl (by kernel_rfl) rfl ?_
        simp only [Act.put, List.setIfInBounds_toArray, List.set_cons_succ, List.set_cons_zero]
        have Cb4 := Mem.cell HM28.out 0 rfl
        refine wpS_this [2, 3] rfl (by kernel_rfl) (by simp only [pickL, nthL, List.cons_append, List.nil_append]; rfl) ?_
        repeat (go_big_quiet_step (fail))
        refine wpQuiet_nil ?_
        clear Cb4
        refine wpS_does2 (i := 4) (d := some 27) (rem := [_, _, _]) (out := [_, _, _]) rfl (by rfl) rfl Try.call56 (rvhas_d a.k y.1.1 y.1.2) rfl rfl HM28.out [] rfl (covS_box 1 rfl (covS_box 0 rfl covS_nil)) rfl rfl ?_
        rintro W30 hm29 hg31
        rw [hhas.out]
        have HM32 := Lib.hid hm29
        clear hm29
        simp only [Act.put, List.setIfInBounds_toArray, List.set_cons_succ, List.set_cons_zero]
        have Cb4 := Mem.cell HM32.out 0 rfl
        refine wpS_this [5, 6, 7, 8, 9, 10, 11, 12, 13, 14, 15, 16] rfl (by kernel_rfl) (by simp only [pickL, nthL, List.cons_append, List.nil_append]; rfl) ?_
        repeat (go_big_quiet_step (fail))
        refine wpQuiet_nil ?_
        clear Cb4
        refine wpS_skip (i := 17) (d := some 40) rfl (by rfl) rfl ?_
        simp only [Act.put, List.setIfInBounds_toArray, List.set_cons_succ, List.set_cons_zero]
        refine wpS_this [18, 19] rfl (by kernel_rfl) (by simp only [pickL, nthL, List.cons_append, List.nil_append]; rfl) ?_
        repeat (go_big_quiet_step (fail))
        refine wpQuiet_nil ?_
        refine wpS_skip (i := 20) (d := some 43) rfl (by rfl) rfl ?_
        simp only [Act.put, List.setIfInBounds_toArray, List.set_cons_succ, List.set_cons_zero]
        refine wpS_this [21] rfl (by kernel_rfl) (by simp only [pickL, nthL, List.cons_append, List.nil_append]; rfl) ?_
        repeat (go_big_quiet_step (fail))
        refine wpQuiet_nil ?_
        refine wpS_skip (i := 22) (d := some 45) rfl (by rfl) rfl ?_
        simp only [Act.put, List.setIfInBounds_toArray, List.set_cons_succ, List.set_cons_zero]
        have Cb4 := Mem.cell HM32.out 0 rfl
        refine wpS_this [23, 24] rfl (by kernel_rfl) (by simp only [pickL, nthL, List.cons_append, List.nil_append]; rfl) ?_
        repeat (go_big_quiet_step (fail))
        refine wpQuiet_nil ?_
        clear Cb4
        refine wpS_skip (i := 25) (d := some 48) rfl (by rfl) rfl ?_
        simp only [Act.put, List.setIfInBounds_toArray, List.set_cons_succ, List.set_cons_zero]
        refine wpS_this [26, 27, 28] rfl (by kernel_rfl) (by simp only [pickL, nthL, List.cons_append, List.nil_append]; rfl) ?_
        repeat (go_big_quiet_step (fail))
        refine wpQuiet_nil ?_
        refine wpS_nil ?_
        refine then_normal ?_
        refine wp_cond_true rfl ?_
        refine wp_seq ?_
        refine wp_region_N [(0, 1)] (by kernel_rfl) ?_
        refine wpS_this [0] rfl (by kernel_rfl) (by simp only [pickL, nthL, List.cons_append, List.nil_append]; rfl) ?_
        repeat (go_big_quiet_step (fail))
        refine wpQuiet_nil ?_
        refine wpS_nil ?_
        refine then_normal ?_
        refine wp_ret ?_
        refine block_ret (then_ret (then_ret (block_ret (then_ret ?_))))
        refine bodyPost_ret (results_tmp rfl _ _ _) rfl ?_
        rw [mayB_no3 hy.out hoy.out]
        exact does_ret (Mem.only (M := [_]) HM32.out [2] rfl) rfl rfl
      · have hhas : Hid (hasV a.k (y.1.1, y.1.2) = true) := Lib.hid hh
        have g2 : decide ((64 : Int) < (y.2.size : Int)) = true := decide_eq_true (by omega)
        have g2' : decide (64 < y.2.size) = true := decide_eq_true hsz
        have hoy : Hid (okV a.k y = false) := Lib.hid (by unfold okV; rw [hh]; rw [decide_eq_false (by omega)]; rfl)
        clear hh
        replace hsz := Lib.hid hsz
        refine wp_region_M (fun k => k ∈ ([b3, b21] : List Nat)) [(0, 1), (1, 1), (2, 1), (3, 1), (4, 3), (5, 1), (6, 1), (7, 1), (8, 1), (9, 1), (10, 1), (11, 1), (12, 1), (13, 1), (14, 1), (15, 1), (16, 1), (17, 1), (18, 1), (19, 1), (20, 1), (21, 1), (22, 1), (23, 1), (24, 1), (25, 3), (26, 1), (27, 1), (28, 1)] (by kernel_rfl) (by kernel_rfl) HM25.out ?_
        intro W33 hm34
        have HM35 := Lib.hid hm34
        clear hm34
        refine wpS_this [0] rfl (by kernel_rfl) (by simp only [pickL, nthL, List.cons_append, List.nil_append]; rfl) ?_
        repeat (go_big_quiet_step (fail))
        refine wpQuiet_nil ?_
        refine wpS_loadA (i := 1) (d := some 24) (cells := vcC (a.k)) rfl (by rfl) rfl rfl (HM35.out.part 1 rfl (bgC_vc)) Try.underlying30 rfl (by kernel_rfl) rfl ?_
        simp only [Act.put, List.setIfInBounds_toArray, List.set_cons_succ, List.set_cons_zero]
        have Cb4 := Mem.cell HM35.out 0 rfl
        refine wpS_this [2, 3] rfl (by kernel_rfl) (by simp only [pickL, nthL, List.cons_append, List.nil_append]; rfl) ?_
        repeat (go_big_quiet_step (fail))
        refine wpQuiet_nil ?_
        clear Cb4
        refine wpS_does2 (i := 4) (d := some 27) (rem := [_, _, _]) (out := [_, _, _]) rfl (by rfl) rfl Try.call56 (rvhas_d a.k y.1.1 y.1.2) rfl rfl HM35.out [] rfl (covS_box 1 rfl (covS_box 0 rfl covS_nil)) rfl rfl ?_
        rintro W37 hm36 hg38
        rw [hhas.out]
        have HM39 := Lib.hid hm36
        clear hm36
        simp only [Act.put, List.setIfInBounds_toArray, List.set_cons_succ, List.set_cons_zero]
        have Cb4 := Mem.cell HM39.out 0 rfl
        refine wpS_this [5, 6, 7, 8, 9, 10, 11, 12, 13, 14, 15, 16] rfl (by kernel_rfl) (by simp only [pickL, nthL, List.cons_append, List.nil_append]; rfl) ?_
        repeat (go_big_quiet_step (fail))
        refine wpQuiet_nil ?_
        clear Cb4
        refine wpS_skip (i := 17) (d := some 40) rfl (by rfl) rfl ?_
        simp only [Act.put, List.setIfInBounds_toArray, List.set_cons_succ, List.set_cons_zero]
        refine wpS_this [18, 19] rfl (by kernel_rfl) (by simp only [pickL, nthL, List.cons_append, List.nil_append]; rfl) ?_
        repeat (go_big_quiet_step (fail))
        refine wpQuiet_nil ?_
        refine wpS_skip (i := 20) (d := some 43) rfl (by rfl) rfl ?_
        simp only [Act.put, List.setIfInBounds_toArray, List.set_cons_succ, List.set_cons_zero]
        refine wpS_this [21] rfl (by kernel_rfl) (by simp only [pickL, nthL, List.cons_append, List.nil_append]; rfl) ?_
        repeat (go_big_quiet_step (fail))
        refine wpQuiet_nil ?_
        refine wpS_skip (i := 22) (d := some 45) rfl (by rfl) rfl ?_
        simp only [Act.put, List.setIfInBounds_toArray, List.set_cons_succ, List.set_cons_zero]
        have Cb4 := Mem.cell HM39.out 0 rfl
        refine wpS_this [23, 24] rfl (by kernel_rfl) (by simp only [pickL, nthL, List.cons_append, List.nil_append]; rfl) ?_
        repeat (go_big_quiet_step (fail))
        refine wpQuiet_nil ?_
        clear Cb4
        refine wpS_skip (i := 25) (d := some 48) rfl (by rfl) rfl ?_
        simp only [Act.put, List.setIfInBounds_toArray, List.set_cons_succ, List.set_cons_zero]
        refine wpS_this [26, 27, 28] rfl (by kernel_rfl) (by simp only [pickL, nthL, List.cons_append, List.nil_append]; rfl) ?_
        repeat (go_big_quiet_step (fail))
        refine wpQuiet_nil ?_
        refine wpS_nil ?_
        refine then_normal ?_
        refine wp_cond_true rfl ?_
        refine wp_seq ?_
        refine wp_region_N [(0, 1)] (by kernel_rfl) ?_
        refine wpS_this [0] rfl (by kernel_rfl) (by simp only [pickL, nthL, List.cons_append, List.nil_append]; rfl) ?_
        repeat (go_big_quiet_step (fail))
        refine wpQuiet_nil ?_
        refine wpS_nil ?_
        refine then_normal ?_
        refine wp_ret ?_
        refine block_ret (then_ret (then_ret (block_ret (then_ret ?_))))
        refine bodyPost_ret (results_tmp rfl _ _ _) rfl ?_
        rw [mayB_no3 hy.out hoy.out]
        exact does_ret (Mem.only (M := [_]) HM39.out [2] rfl) rfl rfl
      · have hhas : Hid (hasV a.k (y.1.1, y.1.2) = true) := Lib.hid hh
        have g2 : decide ((64 : Int) < (y.2.size : Int)) = false := decide_eq_false (by omega)
        have g2' : decide (64 < y.2.size) = false := decide_eq_false hsz
        have hoy : Hid (okV a.k y = true) := Lib.hid (by unfold okV; rw [hh]; rw [decide_eq_true (by omega)]; rfl)
        clear hh
        replace hsz := Lib.hid hsz
        subst hk0
        have g3 : decide ((0 : Int) < ((0 : Nat) : Int)) = false := by decide
        have hpr : Hid ((0 : Nat) = 0 ∨ ∃ u, a.v[0 - 1]? = some u ∧ cmpE u.1 y.1 < 0) := Lib.hid (.inl rfl)
        refine wp_region_M (fun k => k ∈ ([b3, b21] : List Nat)) [(0, 1), (1, 1), (2, 1), (3, 1), (4, 3), (5, 1), (6, 1), (7, 1), (8, 1), (9, 1), (10, 1), (11, 1), (12, 1), (13, 1), (14, 1), (15, 1), (16, 1), (17, 1), (18, 1), (19, 1), (20, 1), (21, 1), (22, 1), (23, 1), (24, 1), (25, 3), (26, 1), (27, 1), (28, 1)] (by kernel_rfl) (by kernel_rfl) HM25.out ?_
        intro W40 hm41
        have HM42 := Lib.hid hm41
        clear hm41
        refine wpS_this [0] rfl (by kernel_rfl) (by simp only [pickL, nthL, List.cons_append, List.nil_append]; rfl) ?_
        repeat (go_big_quiet_step (fail))
        refine wpQuiet_nil ?_
        refine wpS_loadA (i := 1) (d := some 24) (cells := vcC (a.k)) rfl (by rfl) rfl rfl (HM42.out.part 1 rfl (bgC_vc)) Try.underlying30 rfl (by kernel_rfl) rfl ?_
        simp only [Act.put, List.setIfInBounds_toArray, List.set_cons_succ, List.set_cons_zero]
        have Cb4 := Mem.cell HM42.out 0 rfl
        refine wpS_this [2, 3] rfl (by kernel_rfl) (by simp only [pickL, nthL, List.cons_append, List.nil_append]; rfl) ?_
        repeat (go_big_quiet_step (fail))
        refine wpQuiet_nil ?_
        clear Cb4
        refine wpS_does2 (i := 4) (d := some 27) (rem := [_, _, _]) (out := [_, _, _]) rfl (by rfl) rfl Try.call56 (rvhas_d a.k y.1.1 y.1.2) rfl rfl HM42.out [] rfl (covS_box 1 rfl (covS_box 0 rfl covS_nil)) rfl rfl ?_
        rintro W44 hm43 hg45
        rw [hhas.out]
        have HM46 := Lib.hid hm43
        clear hm43
        simp only [Act.put, List.setIfInBounds_toArray, List.set_cons_succ, List.set_cons_zero]
        have Cb4 := Mem.cell HM46.out 0 rfl
        refine wpS_this [5, 6, 7, 8, 9, 10, 11, 12, 13, 14, 15, 16] rfl (by kernel_rfl) (by simp only [pickL, nthL, List.cons_append, List.nil_append]; rfl) ?_
        repeat (go_big_quiet_step (fail))
        refine wpQuiet_nil ?_
        clear Cb4
        refine wpS_skip (i := 17) (d := some 40) rfl (by rfl) rfl ?_
        simp only [Act.put, List.setIfInBounds_toArray, List.set_cons_succ, List.set_cons_zero]
        refine wpS_this [18, 19] rfl (by kernel_rfl) (by simp only [pickL, nthL, List.cons_append, List.nil_append]; rfl) ?_
        repeat (go_big_quiet_step (fail))
        refine wpQuiet_nil ?_
        refine wpS_skip (i := 20) (d := some 43) rfl (by rfl) rfl ?_
        simp only [Act.put, List.setIfInBounds_toArray, List.set_cons_succ, List.set_cons_zero]
        refine wpS_this [21] rfl (by kernel_rfl) (by simp only [pickL, nthL, List.cons_append, List.nil_append]; rfl) ?_
        repeat (go_big_quiet_step (fail))
        refine wpQuiet_nil ?_
        refine wpS_skip (i := 22) (d := some 45) rfl (by rfl) rfl ?_
        simp only [Act.put, List.setIfInBounds_toArray, List.set_cons_succ, List.set_cons_zero]
        have Cb4 := Mem.cell HM46.out 0 rfl
        refine wpS_this [23, 24] rfl (by kernel_rfl) (by simp only [pickL, nthL, List.cons_append, List.nil_append]; rfl) ?_
        repeat (go_big_quiet_step (fail))
        refine wpQuiet_nil ?_
        clear Cb4
        refine wpS_skip (i := 25) (d := some 48) rfl (by rfl) rfl ?_
        simp only [Act.put, List.setIfInBounds_toArray, List.set_cons_succ, List.set_cons_zero]
        refine wpS_this [26, 27, 28] rfl (by kernel_rfl) (by simp only [pickL, nthL, List.cons_append, List.nil_append]; rfl) ?_
        repeat (go_big_quiet_step (fail))
        refine wpQuiet_nil ?_
        refine wpS_nil ?_
        refine then_normal ?_
        refine wp_cond_false rfl ?_
        refine wp_skip ?_
        refine block_normal ?_
        refine then_normal ?_
        refine wp_region_N [(0, 1), (1, 1)] (by kernel_rfl) ?_
        refine wpS_this [0, 1] rfl (by kernel_rfl) (by simp only [pickL, nthL, List.cons_append, List.nil_append]; rfl) ?_
        repeat (go_big_quiet_step (fail))
        refine wpQuiet_nil ?_
        refine wpS_nil ?_
        refine then_normal ?_
        refine ⟨by kernel_rfl, ?_⟩
        refine ⟨a.v.length - (0 + 1), by omega, 0 + 1, rfl, rfl, hk1, okT_step hok.out hy.out hoy.out hpr.out, (Mem.only (M := [_, _]) HM46.out [1, 1] rfl)⟩
      · have hhas : Hid (hasV a.k (y.1.1, y.1.2) = true) := Lib.hid hh
        have g2 : decide ((64 : Int) < (y.2.size : Int)) = false := decide_eq_false (by omega)
        have g2' : decide (64 < y.2.size) = false := decide_eq_false hsz
        have hoy : Hid (okV a.k y = true) := Lib.hid (by unfold okV; rw [hh]; rw [decide_eq_true (by omega)]; rfl)
        clear hh
        replace hsz := Lib.hid hsz
        have g3 : decide ((0 : Int) < ((j + 1 : Nat) : Int)) = true := decide_eq_true (by omega)
        have g3n : decide (0 < j + 1) = true := decide_eq_true (by omega)
        obtain ⟨cu, hcu'⟩ := int_letter (cmpE u.1 y.1)
        have hcu : Hid (cmpE (u.1.1, u.1.2) (y.1.1, y.1.2) = cu) := Lib.hid hcu'
        have g4 : decide (0 ≤ cu) = false := decide_eq_false (by rw [← hcu']; omega)
        have hpr : Hid (j + 1 = 0 ∨ ∃ u, a.v[j + 1 - 1]? = some u ∧ cmpE u.1 y.1 < 0) := Lib.hid (.inr ⟨u, hu', hneg⟩)
        clear hcu' hneg
        have hu := Lib.hid hu'
        clear hu'
        refine wp_region_M (fun k => k ∈ ([b3, b21] : List Nat)) [(0, 1), (1, 1), (2, 1), (3, 1), (4, 3), (5, 1), (6, 1), (7, 1), (8, 1), (9, 1), (10, 1), (11, 1), (12, 1), (13, 1), (14, 1), (15, 1), (16, 1), (17, 1), (18, 1), (19, 1), (20, 1), (21, 1), (22, 1), (23, 1), (24, 1), (25, 3), (26, 1), (27, 1), (28, 1)] (by kernel_rfl) (by kernel_rfl) HM25.out ?_
        intro W47 hm48
        have HM49 := Lib.hid hm48
        clear hm48
        refine wpS_this [0] rfl (by kernel_rfl) (by simp only [pickL, nthL, List.cons_append, List.nil_append]; rfl) ?_
        repeat (go_big_quiet_step (fail))
        refine wpQuiet_nil ?_
        refine wpS_loadA (i := 1) (d := some 24) (cells := vcC (a.k)) rfl (by rfl) rfl rfl (HM49.out.part 1 rfl (bgC_vc)) Try.underlying30 rfl (by kernel_rfl) rfl ?_
        simp only [Act.put, List.setIfInBounds_toArray, List.set_cons_succ, List.set_cons_zero]
        have Cb4 := Mem.cell HM49.out 0 rfl
        refine wpS_this [2, 3] rfl (by kernel_rfl) (by simp only [pickL, nthL, List.cons_append, List.nil_append]; rfl) ?_
        repeat (go_big_quiet_step (fail))
        refine wpQuiet_nil ?_
        clear Cb4
        refine wpS_does2 (i := 4) (d := some 27) (rem := [_, _, _]) (out := [_, _, _]) rfl (by rfl) rfl Try.call56 (rvhas_d a.k y.1.1 y.1.2) rfl rfl HM49.out [] rfl (covS_box 1 rfl (covS_box 0 rfl covS_nil)) rfl rfl ?_
        rintro W51 hm50 hg52
        rw [hhas.out]
        have HM53 := Lib.hid hm50
        clear hm50
        simp only [Act.put, List.setIfInBounds_toArray, List.set_cons_succ, List.set_cons_zero]
        have Cb4 := Mem.cell HM53.out 0 rfl
        refine wpS_this [5, 6, 7, 8, 9, 10, 11, 12, 13, 14, 15, 16] rfl (by kernel_rfl) (by simp only [pickL, nthL, List.cons_append, List.nil_append]; rfl) ?_
        repeat (go_big_quiet_step (fail))
        refine wpQuiet_nil ?_
        clear Cb4
        refine wpS_load1 (i := 17) (d := some 40) (u := .slice pa a.v.length ca) rfl (by rfl) rfl rfl (HM53.out.part1 1 rfl bgC_sl) Try.underlying31 rfl rfl ?_
        simp only [Act.put, List.setIfInBounds_toArray, List.set_cons_succ, List.set_cons_zero]
        refine wpS_this [18, 19] rfl (by kernel_rfl) (by simp only [pickL, nthL, List.cons_append, List.nil_append]; rfl) ?_
        repeat (go_big_quiet_step (fail))
        refine wpQuiet_nil ?_
        refine wpS_index (E := elemV) (i := 20) (d := some 43) rfl (by rfl) rfl rfl rfl (HM53.out.row 2 rfl (fun W H h => rowAt_src (ha W H h))) (hu.out) rfl ?_
        intro eb54 eo55 hc56
        simp only [Act.put, List.setIfInBounds_toArray, List.set_cons_succ, List.set_cons_zero]
        refine wpS_this [21] rfl (by kernel_rfl) (by simp only [pickL, nthL, List.cons_append, List.nil_append]; rfl) ?_
        repeat (go_big_quiet_step (fail))
        refine wpQuiet_nil ?_
        refine wpS_loadA (i := 22) (d := some 45) (cells := [.int .i64 u.1.1, .int .i64 u.1.2]) rfl (by rfl) rfl rfl (vl_dot hc56) Try.underlying64 rfl (by kernel_rfl) rfl ?_
        simp only [Act.put, List.setIfInBounds_toArray, List.set_cons_succ, List.set_cons_zero]
        have Cb4 := Mem.cell HM53.out 0 rfl
        refine wpS_this [23, 24] rfl (by kernel_rfl) (by simp only [pickL, nthL, List.cons_append, List.nil_append]; rfl) ?_
        repeat (go_big_quiet_step (fail))
        refine wpQuiet_nil ?_
        clear Cb4
        refine wpS_does2 (i := 25) (d := some 48) (rem := [_, _, _]) (out := [_, _, _]) rfl (by rfl) rfl Try.call57 (rvcmp_d u.1.1 u.1.2 y.1.1 y.1.2) rfl rfl HM53.out [] rfl (covS_box 1 rfl (covS_box 0 rfl covS_nil)) rfl rfl ?_
        rintro W58 hm57 hg59
        rw [hcu.out]
        have HM60 := Lib.hid hm57
        clear hm57
        simp only [Act.put, List.setIfInBounds_toArray, List.set_cons_succ, List.set_cons_zero]
        refine wpS_this [26, 27, 28] rfl (by kernel_rfl) (by simp only [pickL, nthL, List.cons_append, List.nil_append]; rfl) ?_
        repeat (go_big_quiet_step (fail))
        refine wpQuiet_nil ?_
        refine wpS_nil ?_
        refine then_normal ?_
        refine wp_cond_false rfl ?_
        refine wp_skip ?_
        refine block_normal ?_
        refine then_normal ?_
        refine wp_region_N [(0, 1), (1, 1)] (by kernel_rfl) ?_
        refine wpS_this [0, 1] rfl (by kernel_rfl) (by simp only [pickL, nthL, List.cons_append, List.nil_append]; rfl) ?_
        repeat (go_big_quiet_step (fail))
        refine wpQuiet_nil ?_
        refine wpS_nil ?_
        refine then_normal ?_
        refine ⟨by kernel_rfl, ?_⟩
        refine ⟨a.v.length - ((j + 1) + 1), by omega, (j + 1) + 1, rfl, rfl, hk1, okT_step hok.out hy.out hoy.out hpr.out, (Mem.only (M := [_, _]) HM60.out [1, 1] rfl)⟩
      · have hhas : Hid (hasV a.k (y.1.1, y.1.2) = true) := Lib.hid hh
        have g2 : decide ((64 : Int) < (y.2.size : Int)) = false := decide_eq_false (by omega)
        have g2' : decide (64 < y.2.size) = false := decide_eq_false hsz
        have hoy : Hid (okV a.k y = true) := Lib.hid (by unfold okV; rw [hh]; rw [decide_eq_true (by omega)]; rfl)
        clear hh
        replace hsz := Lib.hid hsz
        have g3 : decide ((0 : Int) < ((j + 1 : Nat) : Int)) = true := decide_eq_true (by omega)
        have g3n : decide (0 < j + 1) = true := decide_eq_true (by omega)
        obtain ⟨cu, hcu'⟩ := int_letter (cmpE u.1 y.1)
        have hcu : Hid (cmpE (u.1.1, u.1.2) (y.1.1, y.1.2) = cu) := Lib.hid hcu'
        have g4 : decide (0 ≤ cu) = true := decide_eq_true (by rw [← hcu']; omega)
        have hlt := Lib.hid hneg
        clear hcu' hneg
        have hu := Lib.hid hu'
        clear hu'
        refine wp_region_M (fun k => k ∈ ([b3, b21] : List Nat)) [(0, 1), (1, 1), (2, 1), (3, 1), (4, 3), (5, 1), (6, 1), (7, 1), (8, 1), (9, 1), (10, 1), (11, 1), (12, 1), (13, 1), (14, 1), (15, 1), (16, 1), (17, 1), (18, 1), (19, 1), (20, 1), (21, 1), (22, 1), (23, 1), (24, 1), (25, 3), (26, 1), (27, 1), (28, 1)] (by kernel_rfl) (by kernel_rfl) HM25.out ?_
        intro W61 hm62
        have HM63 := Lib.hid hm62
        clear hm62
        refine wpS_this [0] rfl (by kernel_rfl) (by simp only [pickL, nthL, List.cons_append, List.nil_append]; rfl) ?_
        repeat (go_big_quiet_step (fail))
        refine wpQuiet_nil ?_
        refine wpS_loadA (i := 1) (d := some 24) (cells := vcC (a.k)) rfl (by rfl) rfl rfl (HM63.out.part 1 rfl (bgC_vc)) Try.underlying30 rfl (by kernel_rfl) rfl ?_
        simp only [Act.put, List.setIfInBounds_toArray, List.set_cons_succ, List.set_cons_zero]
        have Cb4 := Mem.cell HM63.out 0 rfl
        refine wpS_this [2, 3] rfl (by kernel_rfl) (by simp only [pickL, nthL, List.cons_append, List.nil_append]; rfl) ?_
        repeat (go_big_quiet_step (fail))
        refine wpQuiet_nil ?_
        clear Cb4
        refine wpS_does2 (i := 4) (d := some 27) (rem := [_, _, _]) (out := [_, _, _]) rfl (by rfl) rfl Try.call56 (rvhas_d a.k y.1.1 y.1.2) rfl rfl HM63.out [] rfl (covS_box 1 rfl (covS_box 0 rfl covS_nil)) rfl rfl ?_
        rintro W65 hm64 hg66
        rw [hhas.out]
        have HM67 := Lib.hid hm64
        clear hm64
        simp only [Act.put, List.setIfInBounds_toArray, List.set_cons_succ, List.set_cons_zero]
        have Cb4 := Mem.cell HM67.out 0 rfl
        refine wpS_this [5, 6, 7, 8, 9, 10, 11, 12, 13, 14, 15, 16] rfl (by kernel_rfl) (by simp only [pickL, nthL, List.cons_append, List.nil_append]; rfl) ?_
        repeat (go_big_quiet_step (fail))
        refine wpQuiet_nil ?_
        clear Cb4
        refine wpS_load1 (i := 17) (d := some 40) (u := .slice pa a.v.length ca) rfl (by rfl) rfl rfl (HM67.out.part1 1 rfl bgC_sl) Try.underlying31 rfl rfl ?_
        simp only [Act.put, List.setIfInBounds_toArray, List.set_cons_succ, List.set_cons_zero]
        refine wpS_this [18, 19] rfl (by kernel_rfl) (by simp only [pickL, nthL, List.cons_append, List.nil_append]; rfl) ?_
        repeat (go_big_quiet_step (fail))
        refine wpQuiet_nil ?_
        refine wpS_index (E := elemV) (i := 20) (d := some 43) rfl (by rfl) rfl rfl rfl (HM67.out.row 2 rfl (fun W H h => rowAt_src (ha W H h))) (hu.out) rfl ?_
        intro eb68 eo69 hc70
        simp only [Act.put, List.setIfInBounds_toArray, List.set_cons_succ, List.set_cons_zero]
        refine wpS_this [21] rfl (by kernel_rfl) (by simp only [pickL, nthL, List.cons_append, List.nil_append]; rfl) ?_
        repeat (go_big_quiet_step (fail))
        refine wpQuiet_nil ?_
        refine wpS_loadA (i := 22) (d := some 45) (cells := [.int .i64 u.1.1, .int .i64 u.1.2]) rfl (by rfl) rfl rfl (vl_dot hc70) Try.underlying64 rfl (by kernel_rfl) rfl ?_
        simp only [Act.put, List.setIfInBounds_toArray, List.set_cons_succ, List.set_cons_zero]
        have Cb4 := Mem.cell HM67.out 0 rfl
        refine wpS_this [23, 24] rfl (by kernel_rfl) (by simp only [pickL, nthL, List.cons_append, List.nil_append]; rfl) ?_
        repeat (go_big_quiet_step (fail))
        refine wpQuiet_nil ?_
        clear Cb4
        refine wpS_does2 (i := 25) (d := some 48) (rem := [_, _, _]) (out := [_, _, _]) rfl (by rfl) rfl Try.call57 (rvcmp_d u.1.1 u.1.2 y.1.1 y.1.2) rfl rfl HM67.out [] rfl (covS_box 1 rfl (covS_box 0 rfl covS_nil)) rfl rfl ?_
        rintro W72 hm71 hg73
        rw [hcu.out]
        have HM74 := Lib.hid hm71
        clear hm71
        simp only [Act.put, List.setIfInBounds_toArray, List.set_cons_succ, List.set_cons_zero]
        refine wpS_this [26, 27, 28] rfl (by kernel_rfl) (by simp only [pickL, nthL, List.cons_append, List.nil_append]; rfl) ?_
        repeat (go_big_quiet_step (fail))
        refine wpQuiet_nil ?_
        refine wpS_nil ?_
        refine then_normal ?_
        refine wp_cond_true rfl ?_
        refine wp_seq ?_
        refine wp_region_N [(0, 1)] (by kernel_rfl) ?_
        refine wpS_this [0] rfl (by kernel_rfl) (by simp only [pickL, nthL, List.cons_append, List.nil_append]; rfl) ?_
        repeat (go_big_quiet_step (fail))
        refine wpQuiet_nil ?_
        refine wpS_nil ?_
        refine then_normal ?_
        refine wp_ret ?_
        refine block_ret (then_ret (then_ret (block_ret (then_ret ?_))))
        refine bodyPost_ret (results_tmp rfl _ _ _) rfl ?_
        rw [mayB_no4 hy.out hu.out (Nat.succ_ne_zero _) hlt.out]
        exact does_ret (Mem.only (M := [_]) HM74.out [2] rfl) rfl rfl
    · have hge : Hid (a.v.length ≤ k) := Lib.hid (by have : ¬ (k : Int) < ((a.v.length : Nat) : Int) := (by simpa using h15); omega)
      clear h15
      refine wp_exit ?_
      refine then_exit (then_exit (block_exit ?_))
      refine then_normal ?_
      refine wp_seq ?_
      refine wp_region_N [(0, 1)] (by kernel_rfl) ?_
      refine wpS_this [0] rfl (by kernel_rfl) (by simp only [pickL, nthL, List.cons_append, List.nil_append]; rfl) ?_
      repeat (go_big_quiet_step (fail))
      refine wpQuiet_nil ?_
      refine wpS_nil ?_
      refine then_normal ?_
      refine wp_ret ?_
      refine bodyPost_ret (results_tmp rfl _ _ _) rfl ?_
      rw [okT_end hok.out hge.out hm1.out hm2.out]
      exact does_ret (Mem.only (M := [_]) HM14.out [1] rfl) rfl rfl

end Go.Proofs.Ytnahhbpaijfpbaa
