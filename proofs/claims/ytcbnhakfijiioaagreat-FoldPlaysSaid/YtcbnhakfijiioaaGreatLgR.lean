/- LgR: LgR. -/
import Derived.Test.YtcbnhakfijiioaaGreatLgV
import Derived.Test.YtcbnhakfijiioaaGreatBgE
import Derived.Test.YtcbnhakfijiioaaGreatRgK
import Derived.Test.YtcbnhakfijiioaaGreatVcR
import Derived.Test.YtcbnhakfijiioaaGreatPA
namespace Go.Proofs.YtcbnhakfijiioaaGreat
section
open Go Go.RowKit Go.BigFrame
set_option maxHeartbeats 4000000 in
set_option maxRecDepth 100000 in
theorem rkey_d (s : ByteArray) : Does Tryz.prog 57 #[.string s] [] (.bool (keyB s)) [] := by
 intro w H hp
 have HM0 := Lib.hid (mem_refl hp)
 clear hp
 go_enter Tryz.func57, Tryz.ntmps57
 refine wp_seq (wQ ?_)
 refine wp_seq ?_
 by_cases h1 : 1 ≤ s.size <;> by_cases h2 : s.size ≤ 32
 ·have hc : Hid (keyB s = true) := Lib.hid (by unfold keyB; exact decide_eq_true (by omega))
  have g1 : decide ((1 : Int) ≤ (s.size : Int)) = true := decide_eq_true (by omega)
  have g1' : decide (1 ≤ s.size) = true := decide_eq_true (by omega)
  have g2 : decide ((s.size : Int) ≤ 32) = true := decide_eq_true (by omega)
  have g2' : decide (s.size ≤ 32) = true := decide_eq_true (by omega)
  replace h1 := Lib.hid h1
  replace h2 := Lib.hid h2
  refine wQ ?_
  refine wp_ret (bodyPost_ret (results_tmp rfl _ _ _) rfl ?_)
  rw [hc.out]
  exact does_ret (Mem.only (M := []) HM0.out [] rfl) rfl rfl
 ·have hc : Hid (keyB s = false) := Lib.hid (by unfold keyB; exact decide_eq_false (by omega))
  have g1 : decide ((1 : Int) ≤ (s.size : Int)) = true := decide_eq_true (by omega)
  have g1' : decide (1 ≤ s.size) = true := decide_eq_true (by omega)
  have g2 : decide ((s.size : Int) ≤ 32) = false := decide_eq_false (by omega)
  have g2' : decide (s.size ≤ 32) = false := decide_eq_false (by omega)
  replace h1 := Lib.hid h1
  replace h2 := Lib.hid h2
  refine wQ ?_
  refine wp_ret (bodyPost_ret (results_tmp rfl _ _ _) rfl ?_)
  rw [hc.out]
  exact does_ret (Mem.only (M := []) HM0.out [] rfl) rfl rfl
 ·have hc : Hid (keyB s = false) := Lib.hid (by unfold keyB; exact decide_eq_false (by omega))
  have g1 : decide ((1 : Int) ≤ (s.size : Int)) = false := decide_eq_false (by omega)
  have g1' : decide (1 ≤ s.size) = false := decide_eq_false (by omega)
  have g2 : decide ((s.size : Int) ≤ 32) = true := decide_eq_true (by omega)
  have g2' : decide (s.size ≤ 32) = true := decide_eq_true (by omega)
  replace h1 := Lib.hid h1
  replace h2 := Lib.hid h2
  refine wQ ?_
  refine wp_ret (bodyPost_ret (results_tmp rfl _ _ _) rfl ?_)
  rw [hc.out]
  exact does_ret (Mem.only (M := []) HM0.out [] rfl) rfl rfl
 ·have hc : Hid (keyB s = false) := Lib.hid (by unfold keyB; exact decide_eq_false (by omega))
  have g1 : decide ((1 : Int) ≤ (s.size : Int)) = false := decide_eq_false (by omega)
  have g1' : decide (1 ≤ s.size) = false := decide_eq_false (by omega)
  have g2 : decide ((s.size : Int) ≤ 32) = false := decide_eq_false (by omega)
  have g2' : decide (s.size ≤ 32) = false := decide_eq_false (by omega)
  replace h1 := Lib.hid h1
  replace h2 := Lib.hid h2
  refine wQ ?_
  refine wp_ret (bodyPost_ret (results_tmp rfl _ _ _) rfl ?_)
  rw [hc.out]
  exact does_ret (Mem.only (M := []) HM0.out [] rfl) rfl rfl
theorem rmay_ways {a : Bg} {k : Nat} {y : Vl} (hk1 : k + 1 ≤ a.v.length) : hasV a.k y.1 = false ∨ (hasV a.k y.1 = true ∧ 64 < y.2.size) ∨ (hasV a.k y.1 = true ∧ ¬ 64 < y.2.size ∧ k = 0) ∨ (hasV a.k y.1 = true ∧ ¬ 64 < y.2.size ∧ ∃ j u, k = j + 1 ∧ a.v[j]? = some u ∧ cmpE u.1 y.1 < 0) ∨ (hasV a.k y.1 = true ∧ ¬ 64 < y.2.size ∧ ∃ j u, k = j + 1 ∧ a.v[j]? = some u ∧ ¬ cmpE u.1 y.1 < 0) := by
 cases hasV a.k y.1
 ·exact .inl rfl
 ·by_cases h : 64 < y.2.size
  ·exact .inr (.inl ⟨rfl, h⟩)
  ·cases k with
   | zero => exact .inr (.inr (.inl ⟨rfl, h, rfl⟩))
   | succ j =>
    have hu : a.v[j]? = some a.v[j] := List.getElem?_eq_getElem (by omega)
    by_cases h2 : cmpE a.v[j].1 y.1 < 0
    ·exact .inr (.inr (.inr (.inl ⟨rfl, h, j, _, rfl, hu, h2⟩)))
    ·exact .inr (.inr (.inr (.inr ⟨rfl, h, j, _, rfl, hu, h2⟩)))
set_option maxHeartbeats 4000000 in
set_option maxRecDepth 100000 in
theorem rmayB_d (R : At) (sa : Value) (a : Bg) (ha : Reads elemV R sa a.v) (la : a.v.length ≤ 4398046510976) : Does Tryz.prog 89 #[bgV a.k sa] [R] (.bool (mayB a)) [R] := by
 intro w H hp
 have HM0 := Lib.hid (mem_refl hp)
 clear hp
 obtain ⟨pa, ca, rfl⟩ := row_form (Mem.src HM0.out 0 rfl ha)
 go_enter Tryz.func89, Tryz.ntmps89
 refine wp_seq (wN [(0, 3), (1, 1)] ?_)
 refine wBh 0 HM0 fun b3 W2 HM4 => ?_
 refine wT [1] ?_
 refine wZ (wp_seq (wp_seq ?_))
 rcases (show mayV a.k = false ∨ (mayV a.k = true ∧ ¬ a.v.length ≤ 32) ∨ (mayV a.k = true ∧ a.v.length ≤ 32) from by cases mayV a.k <;> by_cases h : a.v.length ≤ 32 <;> simp [h]) with hm1 | ⟨hm1, hm2⟩ | ⟨hm1, hm2⟩
 ·replace hm1 := Lib.hid hm1
  refine wN [(0, 1), (1, 1), (2, 3), (3, 1), (4, 1), (5, 1), (6, 1), (7, 1), (8, 1), (9, 1)] (wT [0] ?_)
  refine wL 1 (vcC (a.k)) (HM4.out.part 0 rfl (bgC_vc)) Tryz.underlying40 ?_
  refine wD1 2 [_, _] [_, _] Tryz.call90 (rvmay_d a.k) HM4 [] fun W6 hm5 => ?_
  rw [hm1.out]
  have HM7 := Lib.hid hm5
  clear hm5
  refine wT [3, 4, 5] ?_
  refine wK 6 ?_
  refine wT [7, 8, 9] ?_
  refine wZ (wp_cond_true rfl (wp_seq (wQ ?_)))
  refine wp_ret (then_ret (bodyPost_ret (results_tmp rfl _ _ _) rfl ?_))
  rw [mayB_no1 hm1.out]
  exact does_ret (Mem.only (M := [_]) HM7.out [1] rfl) rfl rfl
 ·have g1 : decide ((32 : Int) < (a.v.length : Int)) = true := decide_eq_true (by omega)
  have g1' : decide (32 < a.v.length) = true := decide_eq_true (by omega)
  replace hm1 := Lib.hid hm1
  replace hm2 := Lib.hid hm2
  refine wN [(0, 1), (1, 1), (2, 3), (3, 1), (4, 1), (5, 1), (6, 1), (7, 1), (8, 1), (9, 1)] (wT [0] ?_)
  refine wL 1 (vcC (a.k)) (HM4.out.part 0 rfl (bgC_vc)) Tryz.underlying40 ?_
  refine wD1 2 [_, _] [_, _] Tryz.call90 (rvmay_d a.k) HM4 [] fun W9 hm8 => ?_
  rw [hm1.out]
  have HM10 := Lib.hid hm8
  clear hm8
  refine wT [3, 4, 5] ?_
  refine wM 6 (.slice pa a.v.length ca) (HM10.out.part1 0 rfl bgC_sl) Tryz.underlying41 ?_
  refine wT [7, 8, 9] ?_
  refine wZ (wp_cond_true rfl (wp_seq (wQ ?_)))
  refine wp_ret (then_ret (bodyPost_ret (results_tmp rfl _ _ _) rfl ?_))
  rw [mayB_no2 hm2.out]
  exact does_ret (Mem.only (M := [_]) HM10.out [1] rfl) rfl rfl
 ·have g1 : decide ((32 : Int) < (a.v.length : Int)) = false := decide_eq_false (by omega)
  have g1' : decide (32 < a.v.length) = false := decide_eq_false (by omega)
  replace hm1 := Lib.hid hm1
  replace hm2 := Lib.hid hm2
  refine wN [(0, 1), (1, 1), (2, 3), (3, 1), (4, 1), (5, 1), (6, 1), (7, 1), (8, 1), (9, 1)] (wT [0] ?_)
  refine wL 1 (vcC (a.k)) (HM4.out.part 0 rfl (bgC_vc)) Tryz.underlying40 ?_
  refine wD1 2 [_, _] [_, _] Tryz.call90 (rvmay_d a.k) HM4 [] fun W12 hm11 => ?_
  rw [hm1.out]
  have HM13 := Lib.hid hm11
  clear hm11
  refine wT [3, 4, 5] ?_
  refine wM 6 (.slice pa a.v.length ca) (HM13.out.part1 0 rfl bgC_sl) Tryz.underlying41 ?_
  refine wT [7, 8, 9] ?_
  refine wZ (wp_cond_false rfl (wp_skip (then_normal (wp_seq (wp_seq (wN [(0, 1), (1, 1), (2, 1), (3, 1)] (wT [0] ?_)))))))
  refine wM 1 (.slice pa a.v.length ca) (HM13.out.part1 0 rfl bgC_sl) Tryz.underlying41 ?_
  refine wT [2, 3] ?_
  refine wZ (wp_block ?_)
  refine wp_loop_F [2, 3, 4, 18, 19, 20, 21, 22, 23, 24, 25, 26, 27, 28, 29, 30, 31, 32, 33, 34, 35, 36, 37, 38, 39, 40, 41, 42, 43, 44, 45, 46, 47, 48, 49, 50, 51, 52] (fun n vs W' => ∃ k : Nat, n = a.v.length - k ∧ vs 18 = .int .i64 (k : Int) ∧ k ≤ a.v.length ∧ OkT a k ∧ Mem [boxT b3 (.cells (bgC a.k (.slice pa a.v.length ca)).toArray 43 (0, 0)), R] H w W') (n0 := a.v.length) ?_ ?_
  ·exact ⟨0, rfl, rfl, Nat.zero_le _, okT_zero a, (Mem.only (M := [_, _]) HM13.out [0, 0] rfl)⟩
  rintro n vs W' ⟨k, rfl, e18, hk, hok', hm⟩
  simp only [putAll, List.map_cons, List.map_nil, Act.put, List.setIfInBounds_toArray, List.set_cons_succ, List.set_cons_zero]
  rw [e18]
  clear e18
  have hok := Lib.hid hok'
  clear hok'
  have HM14 := Lib.hid hm
  clear hm
  refine wp_seq (wQ ?_)
  refine wp_seq ?_
  refine wp_cond_split rfl (fun h15 => ?_) (fun h15 => ?_)
  ·have hk1 : k + 1 ≤ a.v.length := by have : (k : Int) < ((a.v.length : Nat) : Int) := (by simpa using h15); omega
   clear h15
   obtain ⟨y, hy'⟩ : ∃ y, a.v[k]? = some y := ⟨_, List.getElem?_eq_getElem (hk1)⟩
   have hy := Lib.hid hy'
   clear hy'
   refine wp_skip (then_normal (wp_seq (wp_block (wp_seq (wN [(0, 1), (1, 1), (2, 1), (3, 3), (4, 1), (5, 3)] (wT [0] ?_))))))
   refine wI elemV 1 (HM14.out.row 1 rfl (fun W H h => rowAt_src (ha W H h))) (hy.out) fun eb16 eo17 hc18 => ?_
   refine wL 2 [.int .i64 y.1.1, .int .i64 y.1.2, .string y.2] hc18 Tryz.underlying104 ?_
   refine wpS_alloc (i := 3) (dd := 4) (z := .agg #[.int .i64 0, .int .i64 0, .string ByteArray.empty]) (cs := #[.int .i64 0, .int .i64 0, .string ByteArray.empty]) rfl (by rfl) rfl (by kernel_rfl) rfl HM14.out covS_nil rfl ?_
   rintro b21 W20 hm19 -
   have HM22 := Lib.hid hm19
   clear hm19
   simp only [Act.put, List.setIfInBounds_toArray, List.set_cons_succ, List.set_cons_zero]
   refine wT [4] ?_
   refine wXh 5 [_, _] [.int .i64 y.1.1, .int .i64 y.1.2, .string y.2] HM22 0 fun W24 HM25 => ?_
   refine wZ (wp_seq ?_)
   rcases (show hasV a.k y.1 = false ∨ (hasV a.k y.1 = true ∧ 64 < y.2.size) ∨ (hasV a.k y.1 = true ∧ ¬ 64 < y.2.size ∧ k = 0) ∨ (hasV a.k y.1 = true ∧ ¬ 64 < y.2.size ∧ ∃ j u, k = j + 1 ∧ a.v[j]? = some u ∧ cmpE u.1 y.1 < 0) ∨ (hasV a.k y.1 = true ∧ ¬ 64 < y.2.size ∧ ∃ j u, k = j + 1 ∧ a.v[j]? = some u ∧ ¬ cmpE u.1 y.1 < 0) from rmay_ways hk1) with hh | ⟨hh, hsz⟩ | ⟨hh, hsz, hk0⟩ | ⟨hh, hsz, j, u, rfl, hu', hneg⟩ | ⟨hh, hsz, j, u, rfl, hu', hneg⟩
   ·have hhas : Hid (hasV a.k (y.1.1, y.1.2) = false) := Lib.hid hh
    have hoy : Hid (okV a.k y = false) := Lib.hid (by unfold okV; rw [hh]; rfl)
    clear hh
    refine wp_region_M (fun k => k ∈ ([b3, b21] : List Nat)) [(0, 1), (1, 1), (2, 1), (3, 1), (4, 3), (5, 1), (6, 1), (7, 1), (8, 1), (9, 1), (10, 1), (11, 1), (12, 1), (13, 1), (14, 1), (15, 1), (16, 1), (17, 1), (18, 1), (19, 1), (20, 1), (21, 1), (22, 1), (23, 1), (24, 1), (25, 3), (26, 1), (27, 1), (28, 1)] (by kernel_rfl) (by kernel_rfl) HM25.out ?_
    intro W26 hm27
    have HM28 := Lib.hid hm27
    clear hm27
    refine wT [0] ?_
    refine wL 1 (vcC (a.k)) (HM28.out.part 1 rfl (bgC_vc)) Tryz.underlying40 ?_
    have Cb4 := Mem.cell HM28.out 0 rfl
    refine wT [2, 3] ?_
    clear Cb4
    refine wD2 (hS := (covS_box 1 rfl (covS_box 0 rfl covS_nil))) 4 [_, _, _] [_, _, _] Tryz.call91 (rvhas_d a.k y.1.1 y.1.2) HM28 [] fun W30 hm29 => ?_
    rw [hhas.out]
    have HM32 := Lib.hid hm29
    clear hm29
    have Cb4 := Mem.cell HM32.out 0 rfl
    refine wT [5, 6, 7, 8, 9, 10, 11, 12, 13, 14, 15, 16] ?_
    clear Cb4
    refine wK 17 ?_
    refine wT [18, 19] ?_
    refine wK 20 ?_
    refine wT [21] ?_
    refine wK 22 ?_
    have Cb4 := Mem.cell HM32.out 0 rfl
    refine wT [23, 24] ?_
    clear Cb4
    refine wK 25 ?_
    refine wT [26, 27, 28] ?_
    refine wZ (wp_cond_true rfl (wp_seq (wQ ?_)))
    refine wp_ret ?_
    refine block_ret (then_ret (then_ret (block_ret (then_ret ?_))))
    refine bodyPost_ret (results_tmp rfl _ _ _) rfl ?_
    rw [mayB_no3 hy.out hoy.out]
    exact does_ret (Mem.only (M := [_]) HM32.out [2] rfl) rfl rfl
   ·have hhas : Hid (hasV a.k (y.1.1, y.1.2) = true) := Lib.hid hh
    have g2 : decide ((64 : Int) < (y.2.size : Int)) = true := decide_eq_true (by omega)
    have g2' : decide (64 < y.2.size) = true := decide_eq_true hsz
    have hoy : Hid (okV a.k y = false) := Lib.hid (by unfold okV; rw [hh]; rw [decide_eq_false (by omega)]; rfl)
    clear hh
    replace hsz := Lib.hid hsz
    refine wp_region_M (fun k => k ∈ ([b3, b21] : List Nat)) [(0, 1), (1, 1), (2, 1), (3, 1), (4, 3), (5, 1), (6, 1), (7, 1), (8, 1), (9, 1), (10, 1), (11, 1), (12, 1), (13, 1), (14, 1), (15, 1), (16, 1), (17, 1), (18, 1), (19, 1), (20, 1), (21, 1), (22, 1), (23, 1), (24, 1), (25, 3), (26, 1), (27, 1), (28, 1)] (by kernel_rfl) (by kernel_rfl) HM25.out ?_
    intro W33 hm34
    have HM35 := Lib.hid hm34
    clear hm34
    refine wT [0] ?_
    refine wL 1 (vcC (a.k)) (HM35.out.part 1 rfl (bgC_vc)) Tryz.underlying40 ?_
    have Cb4 := Mem.cell HM35.out 0 rfl
    refine wT [2, 3] ?_
    clear Cb4
    refine wD2 (hS := (covS_box 1 rfl (covS_box 0 rfl covS_nil))) 4 [_, _, _] [_, _, _] Tryz.call91 (rvhas_d a.k y.1.1 y.1.2) HM35 [] fun W37 hm36 => ?_
    rw [hhas.out]
    have HM39 := Lib.hid hm36
    clear hm36
    have Cb4 := Mem.cell HM39.out 0 rfl
    refine wT [5, 6, 7, 8, 9, 10, 11, 12, 13, 14, 15, 16] ?_
    clear Cb4
    refine wK 17 ?_
    refine wT [18, 19] ?_
    refine wK 20 ?_
    refine wT [21] ?_
    refine wK 22 ?_
    have Cb4 := Mem.cell HM39.out 0 rfl
    refine wT [23, 24] ?_
    clear Cb4
    refine wK 25 ?_
    refine wT [26, 27, 28] ?_
    refine wZ (wp_cond_true rfl (wp_seq (wQ ?_)))
    refine wp_ret ?_
    refine block_ret (then_ret (then_ret (block_ret (then_ret ?_))))
    refine bodyPost_ret (results_tmp rfl _ _ _) rfl ?_
    rw [mayB_no3 hy.out hoy.out]
    exact does_ret (Mem.only (M := [_]) HM39.out [2] rfl) rfl rfl
   ·have hhas : Hid (hasV a.k (y.1.1, y.1.2) = true) := Lib.hid hh
    have g2 : decide ((64 : Int) < (y.2.size : Int)) = false := decide_eq_false (by omega)
    have g2' : decide (64 < y.2.size) = false := decide_eq_false hsz
    have hoy : Hid (okV a.k y = true) := Lib.hid (by unfold okV; rw [hh]; rw [decide_eq_true (by omega)]; rfl)
    clear hh
    replace hsz := Lib.hid hsz
    subst hk0
    have g3 : decide ((0 : Int) < ((0 : Nat) : Int)) = false := by decide
    have hpr : Hid ((0 : Nat) = 0 ∨ ∃ u, a.v[0 - 1]? = some u ∧ cmpE u.1 y.1 < 0) := Lib.hid (.inl rfl)
    refine wp_region_M (fun k => k ∈ ([b3, b21] : List Nat)) [(0, 1), (1, 1), (2, 1), (3, 1), (4, 3), (5, 1), (6, 1), (7, 1), (8, 1), (9, 1), (10, 1), (11, 1), (12, 1), (13, 1), (14, 1), (15, 1), (16, 1), (17, 1), (18, 1), (19, 1), (20, 1), (21, 1), (22, 1), (23, 1), (24, 1), (25, 3), (26, 1), (27, 1), (28, 1)] (by kernel_rfl) (by kernel_rfl) HM25.out ?_
    intro W40 hm41
    have HM42 := Lib.hid hm41
    clear hm41
    refine wT [0] ?_
    refine wL 1 (vcC (a.k)) (HM42.out.part 1 rfl (bgC_vc)) Tryz.underlying40 ?_
    have Cb4 := Mem.cell HM42.out 0 rfl
    refine wT [2, 3] ?_
    clear Cb4
    refine wD2 (hS := (covS_box 1 rfl (covS_box 0 rfl covS_nil))) 4 [_, _, _] [_, _, _] Tryz.call91 (rvhas_d a.k y.1.1 y.1.2) HM42 [] fun W44 hm43 => ?_
    rw [hhas.out]
    have HM46 := Lib.hid hm43
    clear hm43
    have Cb4 := Mem.cell HM46.out 0 rfl
    refine wT [5, 6, 7, 8, 9, 10, 11, 12, 13, 14, 15, 16] ?_
    clear Cb4
    refine wK 17 ?_
    refine wT [18, 19] ?_
    refine wK 20 ?_
    refine wT [21] ?_
    refine wK 22 ?_
    have Cb4 := Mem.cell HM46.out 0 rfl
    refine wT [23, 24] ?_
    clear Cb4
    refine wK 25 ?_
    refine wT [26, 27, 28] ?_
    refine wZ (wp_cond_false rfl (wp_skip (block_normal (then_normal (wQ ?_)))))
    refine ⟨by kernel_rfl, ?_⟩
    refine ⟨a.v.length - (0 + 1), by omega, 0 + 1, rfl, rfl, hk1, okT_step hok.out hy.out hoy.out hpr.out, (Mem.only (M := [_, _]) HM46.out [1, 1] rfl)⟩
   ·have hhas : Hid (hasV a.k (y.1.1, y.1.2) = true) := Lib.hid hh
    have g2 : decide ((64 : Int) < (y.2.size : Int)) = false := decide_eq_false (by omega)
    have g2' : decide (64 < y.2.size) = false := decide_eq_false hsz
    have hoy : Hid (okV a.k y = true) := Lib.hid (by unfold okV; rw [hh]; rw [decide_eq_true (by omega)]; rfl)
    clear hh
    replace hsz := Lib.hid hsz
    have g3 : decide ((0 : Int) < ((j + 1 : Nat) : Int)) = true := decide_eq_true (by omega)
    have g3n : decide (0 < j + 1) = true := decide_eq_true (by omega)
    obtain ⟨cu, hcu'⟩ := int_letter (cmpE u.1 y.1)
    have hcu : Hid (cmpE (u.1.1, u.1.2) (y.1.1, y.1.2) = cu) := Lib.hid hcu'
    have g4 : decide (0 ≤ cu) = false := decide_eq_false (by rw [← hcu']; omega)
    have hpr : Hid (j + 1 = 0 ∨ ∃ u, a.v[j + 1 - 1]? = some u ∧ cmpE u.1 y.1 < 0) := Lib.hid (.inr ⟨u, hu', hneg⟩)
    clear hcu' hneg
    have hu := Lib.hid hu'
    clear hu'
    refine wp_region_M (fun k => k ∈ ([b3, b21] : List Nat)) [(0, 1), (1, 1), (2, 1), (3, 1), (4, 3), (5, 1), (6, 1), (7, 1), (8, 1), (9, 1), (10, 1), (11, 1), (12, 1), (13, 1), (14, 1), (15, 1), (16, 1), (17, 1), (18, 1), (19, 1), (20, 1), (21, 1), (22, 1), (23, 1), (24, 1), (25, 3), (26, 1), (27, 1), (28, 1)] (by kernel_rfl) (by kernel_rfl) HM25.out ?_
    intro W47 hm48
    have HM49 := Lib.hid hm48
    clear hm48
    refine wT [0] ?_
    refine wL 1 (vcC (a.k)) (HM49.out.part 1 rfl (bgC_vc)) Tryz.underlying40 ?_
    have Cb4 := Mem.cell HM49.out 0 rfl
    refine wT [2, 3] ?_
    clear Cb4
    refine wD2 (hS := (covS_box 1 rfl (covS_box 0 rfl covS_nil))) 4 [_, _, _] [_, _, _] Tryz.call91 (rvhas_d a.k y.1.1 y.1.2) HM49 [] fun W51 hm50 => ?_
    rw [hhas.out]
    have HM53 := Lib.hid hm50
    clear hm50
    have Cb4 := Mem.cell HM53.out 0 rfl
    refine wT [5, 6, 7, 8, 9, 10, 11, 12, 13, 14, 15, 16] ?_
    clear Cb4
    refine wM 17 (.slice pa a.v.length ca) (HM53.out.part1 1 rfl bgC_sl) Tryz.underlying41 ?_
    refine wT [18, 19] ?_
    refine wI elemV 20 (HM53.out.row 2 rfl (fun W H h => rowAt_src (ha W H h))) (hu.out) fun eb54 eo55 hc56 => ?_
    refine wT [21] ?_
    refine wL 22 [.int .i64 u.1.1, .int .i64 u.1.2] (vl_dot hc56) Tryz.underlying56 ?_
    have Cb4 := Mem.cell HM53.out 0 rfl
    refine wT [23, 24] ?_
    clear Cb4
    refine wD2 (hS := (covS_box 1 rfl (covS_box 0 rfl covS_nil))) 25 [_, _, _] [_, _, _] Tryz.call111 (rvcmp_d u.1.1 u.1.2 y.1.1 y.1.2) HM53 [] fun W58 hm57 => ?_
    rw [hcu.out]
    have HM60 := Lib.hid hm57
    clear hm57
    refine wT [26, 27, 28] ?_
    refine wZ (wp_cond_false rfl (wp_skip (block_normal (then_normal (wQ ?_)))))
    refine ⟨by kernel_rfl, ?_⟩
    refine ⟨a.v.length - ((j + 1) + 1), by omega, (j + 1) + 1, rfl, rfl, hk1, okT_step hok.out hy.out hoy.out hpr.out, (Mem.only (M := [_, _]) HM60.out [1, 1] rfl)⟩
   ·have hhas : Hid (hasV a.k (y.1.1, y.1.2) = true) := Lib.hid hh
    have g2 : decide ((64 : Int) < (y.2.size : Int)) = false := decide_eq_false (by omega)
    have g2' : decide (64 < y.2.size) = false := decide_eq_false hsz
    have hoy : Hid (okV a.k y = true) := Lib.hid (by unfold okV; rw [hh]; rw [decide_eq_true (by omega)]; rfl)
    clear hh
    replace hsz := Lib.hid hsz
    have g3 : decide ((0 : Int) < ((j + 1 : Nat) : Int)) = true := decide_eq_true (by omega)
    have g3n : decide (0 < j + 1) = true := decide_eq_true (by omega)
    obtain ⟨cu, hcu'⟩ := int_letter (cmpE u.1 y.1)
    have hcu : Hid (cmpE (u.1.1, u.1.2) (y.1.1, y.1.2) = cu) := Lib.hid hcu'
    have g4 : decide (0 ≤ cu) = true := decide_eq_true (by rw [← hcu']; omega)
    have hlt := Lib.hid hneg
    clear hcu' hneg
    have hu := Lib.hid hu'
    clear hu'
    refine wp_region_M (fun k => k ∈ ([b3, b21] : List Nat)) [(0, 1), (1, 1), (2, 1), (3, 1), (4, 3), (5, 1), (6, 1), (7, 1), (8, 1), (9, 1), (10, 1), (11, 1), (12, 1), (13, 1), (14, 1), (15, 1), (16, 1), (17, 1), (18, 1), (19, 1), (20, 1), (21, 1), (22, 1), (23, 1), (24, 1), (25, 3), (26, 1), (27, 1), (28, 1)] (by kernel_rfl) (by kernel_rfl) HM25.out ?_
    intro W61 hm62
    have HM63 := Lib.hid hm62
    clear hm62
    refine wT [0] ?_
    refine wL 1 (vcC (a.k)) (HM63.out.part 1 rfl (bgC_vc)) Tryz.underlying40 ?_
    have Cb4 := Mem.cell HM63.out 0 rfl
    refine wT [2, 3] ?_
    clear Cb4
    refine wD2 (hS := (covS_box 1 rfl (covS_box 0 rfl covS_nil))) 4 [_, _, _] [_, _, _] Tryz.call91 (rvhas_d a.k y.1.1 y.1.2) HM63 [] fun W65 hm64 => ?_
    rw [hhas.out]
    have HM67 := Lib.hid hm64
    clear hm64
    have Cb4 := Mem.cell HM67.out 0 rfl
    refine wT [5, 6, 7, 8, 9, 10, 11, 12, 13, 14, 15, 16] ?_
    clear Cb4
    refine wM 17 (.slice pa a.v.length ca) (HM67.out.part1 1 rfl bgC_sl) Tryz.underlying41 ?_
    refine wT [18, 19] ?_
    refine wI elemV 20 (HM67.out.row 2 rfl (fun W H h => rowAt_src (ha W H h))) (hu.out) fun eb68 eo69 hc70 => ?_
    refine wT [21] ?_
    refine wL 22 [.int .i64 u.1.1, .int .i64 u.1.2] (vl_dot hc70) Tryz.underlying56 ?_
    have Cb4 := Mem.cell HM67.out 0 rfl
    refine wT [23, 24] ?_
    clear Cb4
    refine wD2 (hS := (covS_box 1 rfl (covS_box 0 rfl covS_nil))) 25 [_, _, _] [_, _, _] Tryz.call111 (rvcmp_d u.1.1 u.1.2 y.1.1 y.1.2) HM67 [] fun W72 hm71 => ?_
    rw [hcu.out]
    have HM74 := Lib.hid hm71
    clear hm71
    refine wT [26, 27, 28] ?_
    refine wZ (wp_cond_true rfl (wp_seq (wQ ?_)))
    refine wp_ret ?_
    refine block_ret (then_ret (then_ret (block_ret (then_ret ?_))))
    refine bodyPost_ret (results_tmp rfl _ _ _) rfl ?_
    rw [mayB_no4 hy.out hu.out (Nat.succ_ne_zero _) hlt.out]
    exact does_ret (Mem.only (M := [_]) HM74.out [2] rfl) rfl rfl
  ·have hge : Hid (a.v.length ≤ k) := Lib.hid (by have : ¬ (k : Int) < ((a.v.length : Nat) : Int) := (by simpa using h15); omega)
   clear h15
   refine wp_exit ?_
   refine then_exit (then_exit (block_exit ?_))
   refine then_normal (wp_seq (wQ ?_))
   refine wp_ret (bodyPost_ret (results_tmp rfl _ _ _) rfl ?_)
   rw [okT_end hok.out hge.out hm1.out hm2.out]
   exact does_ret (Mem.only (M := [_]) HM14.out [1] rfl) rfl rfl
end
end Go.Proofs.YtcbnhakfijiioaaGreat
