/- Entries: the laws without rows. -/
import Derived.Test.YtonlnhcjfdeipaaEntB
namespace Go.Proofs.Ytonlnhcjfdeipaa
open Go Go.RowKit Go.BigFrame

theorem ne_selfE (p : En) : (!decide (p = p)) = false := by simp
theorem cmpE_bound (a b : En) : -1 ≤ cmpE a b ∧ cmpE a b ≤ 1 := by
  rcases cmpE_spec a b with ⟨_, e⟩ | ⟨_, e⟩ | ⟨_, e⟩ <;> rw [e] <;> decide
theorem two_letters (p : En) : ∃ x y, p = (x, y) := ⟨p.1, p.2, rfl⟩
theorem int_letter (p : Int) : ∃ x, p = x := ⟨p, rfl⟩
theorem flip_letters (p : En × Int) : ∃ x y z, p = ((x, y), z) := ⟨p.1.1, p.1.2, p.2, rfl⟩
theorem bool_letter (p : Bool) : ∃ x, p = x := ⟨p, rfl⟩
theorem flip_no {e : En} {to : Int} {x y z : Int} (hf : flipE e to = ((x, y), z)) (h : mayE e = false ∨ nodeE to = false) : x = 0 ∧ y = 0 ∧ z = 1 := by
  unfold flipE at hf
  rw [if_neg (by rcases h with h | h <;> simp [h])] at hf
  simp only [Prod.mk.injEq] at hf
  obtain ⟨⟨rfl, rfl⟩, rfl⟩ := hf
  exact ⟨rfl, rfl, rfl⟩
theorem flip_over {e : En} {to : Int} {x y z : Int} (hf : flipE e to = ((x, y), z)) (h : mayE e = true) (h2 : nodeE to = true) (h3 : e.1 = 1000000) : x = 0 ∧ y = 0 ∧ z = 6 := by
  unfold flipE at hf
  rw [if_pos ⟨h, h2⟩, if_pos h3] at hf
  simp only [Prod.mk.injEq] at hf
  obtain ⟨⟨rfl, rfl⟩, rfl⟩ := hf
  exact ⟨rfl, rfl, rfl⟩
theorem flip_yes {e : En} {to : Int} {x y z : Int} (hf : flipE e to = ((x, y), z)) (h : mayE e = true) (h2 : nodeE to = true) (h3 : e.1 ≠ 1000000) : x = e.1 + 1 ∧ y = to ∧ z = 0 := by
  unfold flipE at hf
  rw [if_pos ⟨h, h2⟩, if_neg h3] at hf
  simp only [Prod.mk.injEq] at hf
  obtain ⟨⟨rfl, rfl⟩, rfl⟩ := hf
  exact ⟨rfl, rfl, rfl⟩
theorem may_cases (e o : Int) : (e = 0 ∧ o = 0 ∧ mayE (e, o) = true) ∨ (e = 0 ∧ o ≠ 0 ∧ mayE (e, o) = false) ∨ (e < 0 ∧ mayE (e, o) = false) ∨ (1 ≤ e ∧ 1000000 < e ∧ mayE (e, o) = false) ∨ (1 ≤ e ∧ e ≤ 1000000 ∧ o < 0 ∧ mayE (e, o) = false) ∨ (1 ≤ e ∧ e ≤ 1000000 ∧ 0 ≤ o ∧ 8 ≤ o ∧ mayE (e, o) = false) ∨ (1 ≤ e ∧ e ≤ 1000000 ∧ 0 ≤ o ∧ o < 8 ∧ mayE (e, o) = true) := by
  have hd : mayE (e, o) = decide ((e = 0 ∧ o = 0) ∨ (1 ≤ e ∧ e ≤ 1000000 ∧ 0 ≤ o ∧ o < 8)) := rfl
  rw [hd]
  by_cases h : (e = 0 ∧ o = 0) ∨ (1 ≤ e ∧ e ≤ 1000000 ∧ 0 ≤ o ∧ o < 8)
  · rw [decide_eq_true h]
    simp only [Bool.true_eq_false, and_true, and_false]
    omega
  · rw [decide_eq_false h]
    simp only [Bool.false_eq_true, and_true, and_false]
    omega
set_option maxHeartbeats 4000000 in
set_option maxRecDepth 100000 in
theorem awake_d  : Does Try.prog 15 #[] [] (.bool true) [] := by
  intro w H hp
  have HM0 := Lib.hid (mem_refl hp)
  clear hp
  go_enter Try.func15, Try.ntmps15
  refine wp_seq ?_
  refine wp_region_N [(0, 1)] (by kernel_rfl) ?_
  refine wpS_this [0] rfl (by kernel_rfl) (by simp only [pickL, nthL, List.cons_append, List.nil_append]; rfl) ?_
  repeat (go_big_quiet_step (fail))
  refine wpQuiet_nil ?_
  refine wpS_nil ?_
  refine then_normal ?_
  refine wp_seq ?_
  refine wp_region_N [(0, 1), (1, 3), (2, 1), (3, 1), (4, 1), (5, 3), (6, 3), (7, 1)] (by kernel_rfl) ?_
  refine wpS_this [0] rfl (by kernel_rfl) (by simp only [pickL, nthL, List.cons_append, List.nil_append]; rfl) ?_
  repeat (go_big_quiet_step (fail))
  refine wpQuiet_nil ?_
  refine wpS_does2 (i := 1) (d := some 5) (rem := []) (out := []) rfl (by rfl) rfl Try.call7 (flip_d 1 0 3 2 3 0 (by decide)) rfl rfl HM0.out [] rfl covS_nil rfl rfl ?_
  rintro W2 hm1 -
  have HM3 := Lib.hid hm1
  clear hm1
  simp only [Act.put, List.setIfInBounds_toArray, List.set_cons_succ, List.set_cons_zero]
  refine wpS_this [2, 3, 4] rfl (by kernel_rfl) (by simp only [pickL, nthL, List.cons_append, List.nil_append]; rfl) ?_
  repeat (go_big_quiet_step (fail))
  refine wpQuiet_nil ?_
  refine wpS_alloc (i := 5) (dd := 1) (z := .agg #[.int .i64 0, .int .i64 0]) (cs := #[.int .i64 0, .int .i64 0]) rfl (by rfl) rfl (by kernel_rfl) rfl HM3.out covS_nil rfl ?_
  rintro b6 W5 hm4 -
  have HM7 := Lib.hid hm4
  clear hm4
  simp only [Act.put, List.setIfInBounds_toArray, List.set_cons_succ, List.set_cons_zero]
  refine wpS_storeA (i := 6) (L2 := []) (cs' := [_, _]) rfl (by rfl) rfl rfl rfl (by kernel_rfl) (by rfl) HM7.out 0 rfl rfl rfl rfl covS_nil rfl ?_
  rintro W9 hm8 -
  have HM10 := Lib.hid hm8
  clear hm8
  refine wpS_this [7] rfl (by kernel_rfl) (by simp only [pickL, nthL, List.cons_append, List.nil_append]; rfl) ?_
  repeat (go_big_quiet_step (fail))
  refine wpQuiet_nil ?_
  refine wpS_nil ?_
  refine then_normal ?_
  refine wp_seq ?_
  refine wp_region_N [(0, 1), (1, 1), (2, 1), (3, 1), (4, 1), (5, 1), (6, 1), (7, 1), (8, 1), (9, 3), (10, 1), (11, 1), (12, 1), (13, 1), (14, 3), (15, 1), (16, 1), (17, 1)] (by kernel_rfl) ?_
  have Cb1 := Mem.cell HM10.out 0 rfl
  refine wpS_this [0, 1, 2, 3, 4] rfl (by kernel_rfl) (by simp only [pickL, nthL, List.cons_append, List.nil_append]; rfl) ?_
  repeat (go_big_quiet_step (fail))
  refine wpQuiet_nil ?_
  clear Cb1
  refine wpS_read (i := 5) (d := some 13) rfl (by rfl) (run_eqEb (p := (2, 3)) (q := (2, 3)) (decide_eq_true rfl) rfl rfl rfl) rfl ?_
  simp only [Act.put, List.setIfInBounds_toArray, List.set_cons_succ, List.set_cons_zero]
  have Cb1 := Mem.cell HM10.out 0 rfl
  refine wpS_this [6, 7, 8] rfl (by kernel_rfl) (by simp only [pickL, nthL, List.cons_append, List.nil_append]; rfl) ?_
  repeat (go_big_quiet_step (fail))
  refine wpQuiet_nil ?_
  clear Cb1
  refine wpS_does1 (i := 9) (d := some 17) (rem := [_]) (out := [_]) rfl (by rfl) rfl Try.call9 (may_d 2 3) rfl HM10.out [] rfl covS_nil rfl rfl ?_
  rintro W12 hm11 -
  rw [show mayE (2, 3) = true from by decide]
  have HM13 := Lib.hid hm11
  clear hm11
  simp only [Act.put, List.setIfInBounds_toArray, List.set_cons_succ, List.set_cons_zero]
  have Cb1 := Mem.cell HM13.out 0 rfl
  refine wpS_this [10, 11, 12, 13] rfl (by kernel_rfl) (by simp only [pickL, nthL, List.cons_append, List.nil_append]; rfl) ?_
  repeat (go_big_quiet_step (fail))
  refine wpQuiet_nil ?_
  clear Cb1
  refine wpS_does2 (i := 14) (d := some 22) (rem := [_]) (out := [_]) rfl (by rfl) rfl Try.call11 (compare_d 2 3 1 0) rfl rfl HM13.out [] rfl covS_nil rfl rfl ?_
  rintro W15 hm14 -
  rw [show cmpE (2, 3) (1, 0) = 1 from by decide]
  have HM16 := Lib.hid hm14
  clear hm14
  simp only [Act.put, List.setIfInBounds_toArray, List.set_cons_succ, List.set_cons_zero]
  refine wpS_this [15, 16, 17] rfl (by kernel_rfl) (by simp only [pickL, nthL, List.cons_append, List.nil_append]; rfl) ?_
  repeat (go_big_quiet_step (fail))
  refine wpQuiet_nil ?_
  refine wpS_nil ?_
  refine then_normal ?_
  refine wp_ret ?_
  refine bodyPost_ret (results_tmp rfl _ _ _) rfl ?_
  exact does_ret (Mem.only (M := []) HM16.out [] rfl) rfl rfl

set_option maxHeartbeats 4000000 in
set_option maxRecDepth 100000 in
theorem forms_d (a1 a2 b1 b2 to : Int) : Does Try.prog 3 #[.agg #[.int .i64 a1, .int .i64 a2], .agg #[.int .i64 b1, .int .i64 b2], .int .i64 to] [] (.bool true) [] := by
  intro w H hp
  have HM0 := Lib.hid (mem_refl hp)
  clear hp
  go_enter Try.func3, Try.ntmps3
  refine wp_seq ?_
  obtain ⟨x1, x2, xe, hx'⟩ := flip_letters (flipE (a1, a2) to)
  have hx := Lib.hid hx'
  clear hx'
  obtain ⟨j1, j2, hj'⟩ := two_letters (joinE (a1, a2) (b1, b2))
  have hj := Lib.hid hj'
  clear hj'
  obtain ⟨c, hc'⟩ := int_letter (cmpE (a1, a2) (b1, b2))
  have hc := Lib.hid hc'
  clear hc'
  obtain ⟨m, hm'⟩ := bool_letter (mayE (a1, a2))
  have hm := Lib.hid hm'
  clear hm'
  have g1 : (m == m) = true := beq_self_eq_true _
  have g2 : (c == c) = true := beq_self_eq_true _
  have g3 : (xe == xe) = true := beq_self_eq_true _
  refine wp_region_N [(0, 3), (1, 3), (2, 1)] (by kernel_rfl) ?_
  refine wpS_boxA (i := 0) (dd := 3) rfl (by rfl) rfl rfl HM0.out covS_nil rfl ?_
  rintro b3 W2 hm1 -
  have HM4 := Lib.hid hm1
  clear hm1
  simp only [Act.put, List.setIfInBounds_toArray, List.set_cons_succ, List.set_cons_zero]
  refine wpS_boxA (i := 1) (dd := 4) rfl (by rfl) rfl rfl HM4.out covS_nil rfl ?_
  rintro b7 W6 hm5 -
  have HM8 := Lib.hid hm5
  clear hm5
  simp only [Act.put, List.setIfInBounds_toArray, List.set_cons_succ, List.set_cons_zero]
  refine wpS_this [2] rfl (by kernel_rfl) (by simp only [pickL, nthL, List.cons_append, List.nil_append]; rfl) ?_
  repeat (go_big_quiet_step (fail))
  refine wpQuiet_nil ?_
  refine wpS_nil ?_
  refine then_normal ?_
  refine wp_seq ?_
  refine wp_region_N [(0, 1), (1, 1), (2, 3), (3, 1), (4, 1), (5, 1), (6, 3), (7, 3), (8, 1)] (by kernel_rfl) ?_
  have Cb3 := Mem.cell HM8.out 1 rfl
  refine wpS_this [0, 1] rfl (by kernel_rfl) (by simp only [pickL, nthL, List.cons_append, List.nil_append]; rfl) ?_
  repeat (go_big_quiet_step (fail))
  refine wpQuiet_nil ?_
  clear Cb3
  refine wpS_does2 (i := 2) (d := some 14) (rem := [_, _]) (out := [_, _]) rfl (by rfl) rfl Try.call7 (flip_d a1 a2 to x1 x2 xe hx.out) rfl rfl HM8.out [] rfl covS_nil rfl rfl ?_
  rintro W10 hm9 -
  have HM11 := Lib.hid hm9
  clear hm9
  simp only [Act.put, List.setIfInBounds_toArray, List.set_cons_succ, List.set_cons_zero]
  refine wpS_this [3, 4, 5] rfl (by kernel_rfl) (by simp only [pickL, nthL, List.cons_append, List.nil_append]; rfl) ?_
  repeat (go_big_quiet_step (fail))
  refine wpQuiet_nil ?_
  refine wpS_alloc (i := 6) (dd := 7) (z := .agg #[.int .i64 0, .int .i64 0]) (cs := #[.int .i64 0, .int .i64 0]) rfl (by rfl) rfl (by kernel_rfl) rfl HM11.out covS_nil rfl ?_
  rintro b14 W13 hm12 -
  have HM15 := Lib.hid hm12
  clear hm12
  simp only [Act.put, List.setIfInBounds_toArray, List.set_cons_succ, List.set_cons_zero]
  refine wpS_storeA (i := 7) (L2 := [_, _]) (cs' := [_, _]) rfl (by rfl) rfl rfl rfl (by kernel_rfl) (by rfl) HM15.out 0 rfl rfl rfl rfl covS_nil rfl ?_
  rintro W17 hm16 -
  have HM18 := Lib.hid hm16
  clear hm16
  refine wpS_this [8] rfl (by kernel_rfl) (by simp only [pickL, nthL, List.cons_append, List.nil_append]; rfl) ?_
  repeat (go_big_quiet_step (fail))
  refine wpQuiet_nil ?_
  refine wpS_nil ?_
  refine then_normal ?_
  refine wp_seq ?_
  refine wp_region_N [(0, 1), (1, 1), (2, 3), (3, 1), (4, 1), (5, 1), (6, 3), (7, 3), (8, 1)] (by kernel_rfl) ?_
  have Cb3 := Mem.cell HM18.out 2 rfl
  refine wpS_this [0, 1] rfl (by kernel_rfl) (by simp only [pickL, nthL, List.cons_append, List.nil_append]; rfl) ?_
  repeat (go_big_quiet_step (fail))
  refine wpQuiet_nil ?_
  clear Cb3
  refine wpS_does2 (i := 2) (d := some 20) (rem := [_, _, _]) (out := [_, _, _]) rfl (by rfl) rfl Try.call8 (rflip_d a1 a2 to x1 x2 xe hx.out) rfl rfl HM18.out [] rfl covS_nil rfl rfl ?_
  rintro W20 hm19 -
  have HM21 := Lib.hid hm19
  clear hm19
  simp only [Act.put, List.setIfInBounds_toArray, List.set_cons_succ, List.set_cons_zero]
  refine wpS_this [3, 4, 5] rfl (by kernel_rfl) (by simp only [pickL, nthL, List.cons_append, List.nil_append]; rfl) ?_
  repeat (go_big_quiet_step (fail))
  refine wpQuiet_nil ?_
  refine wpS_alloc (i := 6) (dd := 9) (z := .agg #[.int .i64 0, .int .i64 0]) (cs := #[.int .i64 0, .int .i64 0]) rfl (by rfl) rfl (by kernel_rfl) rfl HM21.out covS_nil rfl ?_
  rintro b24 W23 hm22 -
  have HM25 := Lib.hid hm22
  clear hm22
  simp only [Act.put, List.setIfInBounds_toArray, List.set_cons_succ, List.set_cons_zero]
  refine wpS_storeA (i := 7) (L2 := [_, _, _]) (cs' := [_, _]) rfl (by rfl) rfl rfl rfl (by kernel_rfl) (by rfl) HM25.out 0 rfl rfl rfl rfl covS_nil rfl ?_
  rintro W27 hm26 -
  have HM28 := Lib.hid hm26
  clear hm26
  refine wpS_this [8] rfl (by kernel_rfl) (by simp only [pickL, nthL, List.cons_append, List.nil_append]; rfl) ?_
  repeat (go_big_quiet_step (fail))
  refine wpQuiet_nil ?_
  refine wpS_nil ?_
  refine then_normal ?_
  refine wp_seq ?_
  refine wp_region_M (fun k => k ∈ ([b3, b7, b14, b24] : List Nat)) [(0, 1), (2, 2), (1, 3), (3, 3), (4, 1), (5, 1), (6, 1), (7, 1), (9, 2), (10, 2), (8, 3), (11, 3), (12, 1), (13, 1), (14, 1), (15, 1), (16, 1), (18, 2), (19, 2), (17, 3), (20, 3), (21, 1), (22, 1), (23, 1), (24, 1), (25, 1), (26, 1), (27, 1), (28, 1), (29, 1), (30, 1), (31, 1), (32, 1), (33, 1), (34, 3), (35, 1), (36, 1)] (by kernel_rfl) (by kernel_rfl) HM28.out ?_
  intro W29 hm30
  have HM31 := Lib.hid hm30
  clear hm30
  have Cb3 := Mem.cell HM31.out 3 rfl
  refine wpS_this [0] rfl (by kernel_rfl) (by simp only [pickL, nthL, List.cons_append, List.nil_append]; rfl) ?_
  repeat (go_big_quiet_step (fail))
  refine wpQuiet_nil ?_
  clear Cb3
  have Cb3 := Mem.cell HM31.out 3 rfl
  refine wpS_stay [2] rfl (by kernel_rfl) (by simp only [pickL, nthL, List.cons_append, List.nil_append]; rfl) ?_
  repeat (go_big_quiet_step (fail))
  refine wpQuiet_nil ?_
  clear Cb3
  refine wpS_does1 (i := 1) (d := some 24) (rem := [_, _, _, _]) (out := [_, _, _, _]) rfl (by rfl) rfl Try.call9 (may_d a1 a2) rfl HM31.out [] rfl (covS_box 3 rfl (covS_box 2 rfl (covS_box 1 rfl (covS_box 0 rfl covS_nil)))) rfl rfl ?_
  rintro W33 hm32 hg34
  rw [hm.out]
  have HM35 := Lib.hid hm32
  clear hm32
  simp only [Act.put, List.setIfInBounds_toArray, List.set_cons_succ, List.set_cons_zero]
  refine wpS_does1 (i := 3) (d := some 26) (rem := [_, _, _, _]) (out := [_, _, _, _]) rfl (by rfl) rfl Try.call10 (rmay_d a1 a2) rfl HM35.out [] rfl (covS_box 3 rfl (covS_box 2 rfl (covS_box 1 rfl (covS_box 0 rfl covS_nil)))) rfl rfl ?_
  rintro W37 hm36 hg38
  rw [hm.out]
  have HM39 := Lib.hid hm36
  clear hm36
  simp only [Act.put, List.setIfInBounds_toArray, List.set_cons_succ, List.set_cons_zero]
  have Cb3 := Mem.cell HM39.out 3 rfl
  have Cb4 := Mem.cell HM39.out 2 rfl
  refine wpS_this [4, 5, 6, 7] rfl (by kernel_rfl) (by simp only [pickL, nthL, List.cons_append, List.nil_append]; rfl) ?_
  repeat (go_big_quiet_step (fail))
  refine wpQuiet_nil ?_
  clear Cb3 Cb4
  have Cb3 := Mem.cell HM39.out 3 rfl
  have Cb4 := Mem.cell HM39.out 2 rfl
  refine wpS_stay [9, 10] rfl (by kernel_rfl) (by simp only [pickL, nthL, List.cons_append, List.nil_append]; rfl) ?_
  repeat (go_big_quiet_step (fail))
  refine wpQuiet_nil ?_
  clear Cb3 Cb4
  refine wpS_does2 (i := 8) (d := some 31) (rem := [_, _, _, _]) (out := [_, _, _, _]) rfl (by rfl) rfl Try.call11 (compare_d a1 a2 b1 b2) rfl rfl HM39.out [] rfl (covS_box 3 rfl (covS_box 2 rfl (covS_box 1 rfl (covS_box 0 rfl covS_nil)))) rfl rfl ?_
  rintro W41 hm40 hg42
  rw [hc.out]
  have HM43 := Lib.hid hm40
  clear hm40
  simp only [Act.put, List.setIfInBounds_toArray, List.set_cons_succ, List.set_cons_zero]
  refine wpS_does2 (i := 11) (d := some 34) (rem := [_, _, _, _]) (out := [_, _, _, _]) rfl (by rfl) rfl Try.call12 (rcompare_d a1 a2 b1 b2) rfl rfl HM43.out [] rfl (covS_box 3 rfl (covS_box 2 rfl (covS_box 1 rfl (covS_box 0 rfl covS_nil)))) rfl rfl ?_
  rintro W45 hm44 hg46
  rw [hc.out]
  have HM47 := Lib.hid hm44
  clear hm44
  simp only [Act.put, List.setIfInBounds_toArray, List.set_cons_succ, List.set_cons_zero]
  have Cb3 := Mem.cell HM47.out 3 rfl
  have Cb4 := Mem.cell HM47.out 2 rfl
  refine wpS_this [12, 13, 14, 15, 16] rfl (by kernel_rfl) (by simp only [pickL, nthL, List.cons_append, List.nil_append]; rfl) ?_
  repeat (go_big_quiet_step (fail))
  refine wpQuiet_nil ?_
  clear Cb3 Cb4
  have Cb3 := Mem.cell HM47.out 3 rfl
  have Cb4 := Mem.cell HM47.out 2 rfl
  refine wpS_stay [18, 19] rfl (by kernel_rfl) (by simp only [pickL, nthL, List.cons_append, List.nil_append]; rfl) ?_
  repeat (go_big_quiet_step (fail))
  refine wpQuiet_nil ?_
  clear Cb3 Cb4
  refine wpS_does2 (i := 17) (d := some 40) (rem := [_, _, _, _]) (out := [_, _, _, _]) rfl (by rfl) rfl Try.call13 (join_d a1 a2 b1 b2 j1 j2 hj.out) rfl rfl HM47.out [] rfl (covS_box 3 rfl (covS_box 2 rfl (covS_box 1 rfl (covS_box 0 rfl covS_nil)))) rfl rfl ?_
  rintro W49 hm48 hg50
  have HM51 := Lib.hid hm48
  clear hm48
  simp only [Act.put, List.setIfInBounds_toArray, List.set_cons_succ, List.set_cons_zero]
  refine wpS_does2 (i := 20) (d := some 43) (rem := [_, _, _, _]) (out := [_, _, _, _]) rfl (by rfl) rfl Try.call14 (rjoin_d a1 a2 b1 b2 j1 j2 hj.out) rfl rfl HM51.out [] rfl (covS_box 3 rfl (covS_box 2 rfl (covS_box 1 rfl (covS_box 0 rfl covS_nil)))) rfl rfl ?_
  rintro W53 hm52 hg54
  have HM55 := Lib.hid hm52
  clear hm52
  simp only [Act.put, List.setIfInBounds_toArray, List.set_cons_succ, List.set_cons_zero]
  refine wpS_read (i := 21) (d := some 44) rfl (by rfl) (run_eqEb (p := (j1, j2)) (q := (j1, j2)) (decide_eq_true rfl) rfl rfl rfl) rfl ?_
  simp only [Act.put, List.setIfInBounds_toArray, List.set_cons_succ, List.set_cons_zero]
  have Cb7 := Mem.cell HM55.out 1 rfl
  have Cb9 := Mem.cell HM55.out 0 rfl
  refine wpS_this [22, 23, 24, 25] rfl (by kernel_rfl) (by simp only [pickL, nthL, List.cons_append, List.nil_append]; rfl) ?_
  repeat (go_big_quiet_step (fail))
  refine wpQuiet_nil ?_
  clear Cb7 Cb9
  refine wpS_read (i := 26) (d := some 49) rfl (by rfl) (run_eqEb (p := (x1, x2)) (q := (x1, x2)) (decide_eq_true rfl) rfl rfl rfl) rfl ?_
  simp only [Act.put, List.setIfInBounds_toArray, List.set_cons_succ, List.set_cons_zero]
  refine wpS_this [27, 28, 29, 30, 31, 32, 33] rfl (by kernel_rfl) (by simp only [pickL, nthL, List.cons_append, List.nil_append]; rfl) ?_
  repeat (go_big_quiet_step (fail))
  refine wpQuiet_nil ?_
  refine wpS_does0 (i := 34) (d := some 57) (rem := [_, _, _, _]) (out := [_, _, _, _]) rfl (by rfl) rfl Try.call15 (awake_d)  HM55.out [] rfl (covS_box 3 rfl (covS_box 2 rfl (covS_box 1 rfl (covS_box 0 rfl covS_nil)))) rfl rfl ?_
  rintro W57 hm56 hg58
  have HM59 := Lib.hid hm56
  clear hm56
  simp only [Act.put, List.setIfInBounds_toArray, List.set_cons_succ, List.set_cons_zero]
  refine wpS_this [35, 36] rfl (by kernel_rfl) (by simp only [pickL, nthL, List.cons_append, List.nil_append]; rfl) ?_
  repeat (go_big_quiet_step (fail))
  refine wpQuiet_nil ?_
  refine wpS_nil ?_
  refine then_normal ?_
  refine wp_ret ?_
  refine bodyPost_ret (results_tmp rfl _ _ _) rfl ?_
  exact does_ret (Mem.only (M := []) HM59.out [] rfl) rfl rfl

set_option maxHeartbeats 4000000 in
set_option maxRecDepth 100000 in
theorem joins_d (a1 a2 b1 b2 c1 c2 to : Int) : Does Try.prog 4 #[.agg #[.int .i64 a1, .int .i64 a2], .agg #[.int .i64 b1, .int .i64 b2], .agg #[.int .i64 c1, .int .i64 c2], .int .i64 to] [] (.bool true) [] := by
  intro w H hp
  have HM0 := Lib.hid (mem_refl hp)
  clear hp
  go_enter Try.func4, Try.ntmps4
  refine wp_seq ?_
  obtain ⟨x1, x2, hx'⟩ := two_letters (joinE (a1, a2) (b1, b2))
  have hx := Lib.hid hx'
  clear hx'
  obtain ⟨y1, y2, hy'⟩ := two_letters (joinE (x1, x2) (c1, c2))
  have hy := Lib.hid hy'
  clear hy'
  obtain ⟨z1, z2, hz'⟩ := two_letters (joinE (b1, b2) (c1, c2))
  have hz := Lib.hid hz'
  clear hz'
  have hle := joinE_le (a1, a2) (b1, b2)
  rw [hx.out] at hle
  have hlp := hle.1
  have hlq := hle.2
  clear hle
  obtain ⟨p, hp'⟩ := int_letter (cmpE (a1, a2) (x1, x2))
  rw [hp'] at hlp
  obtain ⟨q, hq'⟩ := int_letter (cmpE (b1, b2) (x1, x2))
  rw [hq'] at hlq
  have hp := Lib.hid hp'
  clear hp'
  have hq := Lib.hid hq'
  clear hq'
  have gp : decide (0 < p) = false := decide_eq_false (by omega)
  have gq : decide (0 < q) = false := decide_eq_false (by omega)
  clear hlp hlq
  have hcd := cmpE_neg (a1, a2) (b1, b2)
  have hdb := cmpE_bound (b1, b2) (a1, a2)
  obtain ⟨c, hc'⟩ := int_letter (cmpE (a1, a2) (b1, b2))
  obtain ⟨d, hd'⟩ := int_letter (cmpE (b1, b2) (a1, a2))
  rw [hc', hd'] at hcd
  rw [hd'] at hdb
  have hc := Lib.hid hc'
  clear hc'
  have hd := Lib.hid hd'
  clear hd'
  have hd0 := hdb.1
  have hd1 := hdb.2
  clear hdb
  have gcd : (c != -d) = false := by rw [hcd]; exact bne_self_eq_false _
  replace hcd := Lib.hid hcd
  obtain ⟨f1, f2, fe, hf'⟩ := flip_letters (flipE (a1, a2) to)
  have hf := Lib.hid hf'
  clear hf'
  refine wp_region_N [(0, 3), (1, 3), (2, 3), (3, 1)] (by kernel_rfl) ?_
  refine wpS_boxA (i := 0) (dd := 4) rfl (by rfl) rfl rfl HM0.out covS_nil rfl ?_
  rintro b3 W2 hm1 -
  have HM4 := Lib.hid hm1
  clear hm1
  simp only [Act.put, List.setIfInBounds_toArray, List.set_cons_succ, List.set_cons_zero]
  refine wpS_boxA (i := 1) (dd := 5) rfl (by rfl) rfl rfl HM4.out covS_nil rfl ?_
  rintro b7 W6 hm5 -
  have HM8 := Lib.hid hm5
  clear hm5
  simp only [Act.put, List.setIfInBounds_toArray, List.set_cons_succ, List.set_cons_zero]
  refine wpS_boxA (i := 2) (dd := 6) rfl (by rfl) rfl rfl HM8.out covS_nil rfl ?_
  rintro b11 W10 hm9 -
  have HM12 := Lib.hid hm9
  clear hm9
  simp only [Act.put, List.setIfInBounds_toArray, List.set_cons_succ, List.set_cons_zero]
  refine wpS_this [3] rfl (by kernel_rfl) (by simp only [pickL, nthL, List.cons_append, List.nil_append]; rfl) ?_
  repeat (go_big_quiet_step (fail))
  refine wpQuiet_nil ?_
  refine wpS_nil ?_
  refine then_normal ?_
  refine wp_seq ?_
  refine wp_region_N [(0, 1), (1, 1), (2, 3), (3, 3), (4, 3)] (by kernel_rfl) ?_
  have Cb4 := Mem.cell HM12.out 2 rfl
  have Cb5 := Mem.cell HM12.out 1 rfl
  refine wpS_this [0, 1] rfl (by kernel_rfl) (by simp only [pickL, nthL, List.cons_append, List.nil_append]; rfl) ?_
  repeat (go_big_quiet_step (fail))
  refine wpQuiet_nil ?_
  clear Cb4 Cb5
  refine wpS_does2 (i := 2) (d := some 14) (rem := [_, _, _]) (out := [_, _, _]) rfl (by rfl) rfl Try.call13 (join_d a1 a2 b1 b2 x1 x2 hx.out) rfl rfl HM12.out [] rfl covS_nil rfl rfl ?_
  rintro W14 hm13 -
  have HM15 := Lib.hid hm13
  clear hm13
  simp only [Act.put, List.setIfInBounds_toArray, List.set_cons_succ, List.set_cons_zero]
  refine wpS_alloc (i := 3) (dd := 9) (z := .agg #[.int .i64 0, .int .i64 0]) (cs := #[.int .i64 0, .int .i64 0]) rfl (by rfl) rfl (by kernel_rfl) rfl HM15.out covS_nil rfl ?_
  rintro b18 W17 hm16 -
  have HM19 := Lib.hid hm16
  clear hm16
  simp only [Act.put, List.setIfInBounds_toArray, List.set_cons_succ, List.set_cons_zero]
  refine wpS_storeA (i := 4) (L2 := [_, _, _]) (cs' := [_, _]) rfl (by rfl) rfl rfl rfl (by kernel_rfl) (by rfl) HM19.out 0 rfl rfl rfl rfl covS_nil rfl ?_
  rintro W21 hm20 -
  have HM22 := Lib.hid hm20
  clear hm20
  refine wpS_nil ?_
  refine then_normal ?_
  refine wp_seq ?_
  refine wp_seq ?_
  by_cases hxa : ((x1, x2) : En) = (a1, a2)
  · have gxa : (!decide (((x1, x2) : En) = (a1, a2))) = false := by simp [hxa]
    replace hxa := Lib.hid hxa
    refine wp_region_M (fun k => k ∈ ([b3, b7, b11, b18] : List Nat)) [(0, 2), (1, 1), (2, 1), (3, 3), (4, 1), (5, 1), (6, 1), (7, 1), (8, 1), (9, 1), (10, 1), (11, 1), (12, 1), (13, 1), (14, 1), (15, 1), (16, 1), (17, 1), (19, 2), (20, 2), (21, 2), (18, 3), (22, 3), (23, 3), (24, 1), (25, 1), (26, 1), (27, 1), (28, 1), (30, 2), (29, 3), (31, 1), (32, 1), (33, 1), (34, 1), (35, 1), (36, 3), (37, 1), (38, 1), (39, 1), (40, 1), (41, 1), (42, 3), (43, 1), (44, 1)] (by kernel_rfl) (by kernel_rfl) HM22.out ?_
    intro W23 hm24
    have HM25 := Lib.hid hm24
    clear hm24
    have Cb9 := Mem.cell HM25.out 0 rfl
    refine wpS_stay [0] rfl (by kernel_rfl) (by simp only [pickL, nthL, List.cons_append, List.nil_append]; rfl) ?_
    repeat (go_big_quiet_step (fail))
    refine wpQuiet_nil ?_
    clear Cb9
    have Cb5 := Mem.cell HM25.out 2 rfl
    have Cb4 := Mem.cell HM25.out 3 rfl
    refine wpS_this [1, 2] rfl (by kernel_rfl) (by simp only [pickL, nthL, List.cons_append, List.nil_append]; rfl) ?_
    repeat (go_big_quiet_step (fail))
    refine wpQuiet_nil ?_
    clear Cb5 Cb4
    refine wpS_does2 (i := 3) (d := some 18) (rem := [_, _, _, _]) (out := [_, _, _, _]) rfl (by rfl) rfl Try.call13 (join_d b1 b2 a1 a2 x1 x2 ((joinE_comm _ _).trans hx.out)) rfl rfl HM25.out [] rfl (covS_box 3 rfl (covS_box 2 rfl (covS_box 1 rfl (covS_box 0 rfl covS_nil)))) rfl rfl ?_
    rintro W27 hm26 hg28
    have HM29 := Lib.hid hm26
    clear hm26
    simp only [Act.put, List.setIfInBounds_toArray, List.set_cons_succ, List.set_cons_zero]
    refine wpS_read (i := 4) (d := some 19) rfl (by rfl) (run_neEb (p := (x1, x2)) (q := (x1, x2)) (ne_selfE _) rfl rfl rfl) rfl ?_
    simp only [Act.put, List.setIfInBounds_toArray, List.set_cons_succ, List.set_cons_zero]
    have Cb9 := Mem.cell HM29.out 0 rfl
    have Cb4 := Mem.cell HM29.out 3 rfl
    refine wpS_this [5, 6, 7] rfl (by kernel_rfl) (by simp only [pickL, nthL, List.cons_append, List.nil_append]; rfl) ?_
    repeat (go_big_quiet_step (fail))
    refine wpQuiet_nil ?_
    clear Cb9 Cb4
    refine wpS_read (i := 8) (d := some 23) rfl (by rfl) (run_neEb (p := (x1, x2)) (q := (a1, a2)) gxa rfl rfl rfl) rfl ?_
    simp only [Act.put, List.setIfInBounds_toArray, List.set_cons_succ, List.set_cons_zero]
    have Cb9 := Mem.cell HM29.out 0 rfl
    have Cb5 := Mem.cell HM29.out 2 rfl
    refine wpS_this [9, 10, 11] rfl (by kernel_rfl) (by simp only [pickL, nthL, List.cons_append, List.nil_append]; rfl) ?_
    repeat (go_big_quiet_step (fail))
    refine wpQuiet_nil ?_
    clear Cb9 Cb5
    refine wpS_skip (i := 12) (d := some 27) rfl (by rfl) rfl ?_
    simp only [Act.put, List.setIfInBounds_toArray, List.set_cons_succ, List.set_cons_zero]
    have Cb9 := Mem.cell HM29.out 0 rfl
    have Cb6 := Mem.cell HM29.out 1 rfl
    refine wpS_this [13, 14, 15, 16, 17] rfl (by kernel_rfl) (by simp only [pickL, nthL, List.cons_append, List.nil_append]; rfl) ?_
    repeat (go_big_quiet_step (fail))
    refine wpQuiet_nil ?_
    clear Cb9 Cb6
    have Cb4 := Mem.cell HM29.out 3 rfl
    have Cb5 := Mem.cell HM29.out 2 rfl
    have Cb6 := Mem.cell HM29.out 1 rfl
    refine wpS_stay [19, 20, 21] rfl (by kernel_rfl) (by simp only [pickL, nthL, List.cons_append, List.nil_append]; rfl) ?_
    repeat (go_big_quiet_step (fail))
    refine wpQuiet_nil ?_
    clear Cb4 Cb5 Cb6
    refine wpS_does2 (i := 18) (d := some 33) (rem := [_, _, _, _]) (out := [_, _, _, _]) rfl (by rfl) rfl Try.call13 (join_d x1 x2 c1 c2 y1 y2 hy.out) rfl rfl HM29.out [] rfl (covS_box 3 rfl (covS_box 2 rfl (covS_box 1 rfl (covS_box 0 rfl covS_nil)))) rfl rfl ?_
    rintro W31 hm30 hg32
    have HM33 := Lib.hid hm30
    clear hm30
    simp only [Act.put, List.setIfInBounds_toArray, List.set_cons_succ, List.set_cons_zero]
    refine wpS_does2 (i := 22) (d := some 37) (rem := [_, _, _, _]) (out := [_, _, _, _]) rfl (by rfl) rfl Try.call13 (join_d b1 b2 c1 c2 z1 z2 hz.out) rfl rfl HM33.out [] rfl (covS_box 3 rfl (covS_box 2 rfl (covS_box 1 rfl (covS_box 0 rfl covS_nil)))) rfl rfl ?_
    rintro W35 hm34 hg36
    have HM37 := Lib.hid hm34
    clear hm34
    simp only [Act.put, List.setIfInBounds_toArray, List.set_cons_succ, List.set_cons_zero]
    refine wpS_does2 (i := 23) (d := some 38) (rem := [_, _, _, _]) (out := [_, _, _, _]) rfl (by rfl) rfl Try.call13 (join_d a1 a2 z1 z2 y1 y2 (by rw [← hz.out, ← joinE_assoc, hx.out, hy.out])) rfl rfl HM37.out [] rfl (covS_box 3 rfl (covS_box 2 rfl (covS_box 1 rfl (covS_box 0 rfl covS_nil)))) rfl rfl ?_
    rintro W39 hm38 hg40
    have HM41 := Lib.hid hm38
    clear hm38
    simp only [Act.put, List.setIfInBounds_toArray, List.set_cons_succ, List.set_cons_zero]
    refine wpS_read (i := 24) (d := some 39) rfl (by rfl) (run_neEb (p := (y1, y2)) (q := (y1, y2)) (ne_selfE _) rfl rfl rfl) rfl ?_
    simp only [Act.put, List.setIfInBounds_toArray, List.set_cons_succ, List.set_cons_zero]
    have Cb4 := Mem.cell HM41.out 3 rfl
    refine wpS_this [25, 26, 27, 28] rfl (by kernel_rfl) (by simp only [pickL, nthL, List.cons_append, List.nil_append]; rfl) ?_
    repeat (go_big_quiet_step (fail))
    refine wpQuiet_nil ?_
    clear Cb4
    have Cb4 := Mem.cell HM41.out 3 rfl
    refine wpS_stay [30] rfl (by kernel_rfl) (by simp only [pickL, nthL, List.cons_append, List.nil_append]; rfl) ?_
    repeat (go_big_quiet_step (fail))
    refine wpQuiet_nil ?_
    clear Cb4
    refine wpS_does2 (i := 29) (d := some 44) (rem := [_, _, _, _]) (out := [_, _, _, _]) rfl (by rfl) rfl Try.call13 (join_d a1 a2 a1 a2 a1 a2 (joinE_self _)) rfl rfl HM41.out [] rfl (covS_box 3 rfl (covS_box 2 rfl (covS_box 1 rfl (covS_box 0 rfl covS_nil)))) rfl rfl ?_
    rintro W43 hm42 hg44
    have HM45 := Lib.hid hm42
    clear hm42
    simp only [Act.put, List.setIfInBounds_toArray, List.set_cons_succ, List.set_cons_zero]
    refine wpS_read (i := 31) (d := some 46) rfl (by rfl) (run_neEb (p := (a1, a2)) (q := (a1, a2)) (ne_selfE _) rfl rfl rfl) rfl ?_
    simp only [Act.put, List.setIfInBounds_toArray, List.set_cons_succ, List.set_cons_zero]
    have Cb4 := Mem.cell HM45.out 3 rfl
    have Cb9 := Mem.cell HM45.out 0 rfl
    refine wpS_this [32, 33, 34, 35] rfl (by kernel_rfl) (by simp only [pickL, nthL, List.cons_append, List.nil_append]; rfl) ?_
    repeat (go_big_quiet_step (fail))
    refine wpQuiet_nil ?_
    clear Cb4 Cb9
    refine wpS_does2 (i := 36) (d := some 51) (rem := [_, _, _, _]) (out := [_, _, _, _]) rfl (by rfl) rfl Try.call11 (compare_d a1 a2 x1 x2) rfl rfl HM45.out [] rfl (covS_box 3 rfl (covS_box 2 rfl (covS_box 1 rfl (covS_box 0 rfl covS_nil)))) rfl rfl ?_
    rintro W47 hm46 hg48
    rw [hp.out]
    have HM49 := Lib.hid hm46
    clear hm46
    simp only [Act.put, List.setIfInBounds_toArray, List.set_cons_succ, List.set_cons_zero]
    have Cb5 := Mem.cell HM49.out 2 rfl
    have Cb9 := Mem.cell HM49.out 0 rfl
    refine wpS_this [37, 38, 39, 40, 41] rfl (by kernel_rfl) (by simp only [pickL, nthL, List.cons_append, List.nil_append]; rfl) ?_
    repeat (go_big_quiet_step (fail))
    refine wpQuiet_nil ?_
    clear Cb5 Cb9
    refine wpS_does2 (i := 42) (d := some 57) (rem := [_, _, _, _]) (out := [_, _, _, _]) rfl (by rfl) rfl Try.call11 (compare_d b1 b2 x1 x2) rfl rfl HM49.out [] rfl (covS_box 3 rfl (covS_box 2 rfl (covS_box 1 rfl (covS_box 0 rfl covS_nil)))) rfl rfl ?_
    rintro W51 hm50 hg52
    rw [hq.out]
    have HM53 := Lib.hid hm50
    clear hm50
    simp only [Act.put, List.setIfInBounds_toArray, List.set_cons_succ, List.set_cons_zero]
    refine wpS_this [43, 44] rfl (by kernel_rfl) (by simp only [pickL, nthL, List.cons_append, List.nil_append]; rfl) ?_
    repeat (go_big_quiet_step (fail))
    refine wpQuiet_nil ?_
    refine wpS_nil ?_
    refine then_normal ?_
    refine wp_cond_false rfl ?_
    refine wp_skip ?_
    refine then_normal ?_
    refine wp_seq ?_
    refine wp_seq ?_
    by_cases hab : ((a1, a2) : En) = (b1, b2)
    · have gab : decide (((a1, a2) : En) = (b1, b2)) = true := decide_eq_true hab
      have gc : (c == 0) = true := beq_iff_eq.2 (hc.out.symm.trans ((cmpE_zero _ _).2 hab))
      replace hab := Lib.hid hab
      refine wp_region_M (fun k => k ∈ ([b3, b7, b11, b18] : List Nat)) [(0, 1), (1, 1), (3, 2), (4, 2), (2, 3), (5, 3), (6, 1), (7, 1), (8, 1), (9, 1), (10, 1), (13, 2), (14, 2), (15, 0), (11, 3), (12, 1), (16, 1), (17, 1)] (by kernel_rfl) (by kernel_rfl) HM53.out ?_
      intro W54 hm55
      have HM56 := Lib.hid hm55
      clear hm55
      have Cb4 := Mem.cell HM56.out 3 rfl
      have Cb5 := Mem.cell HM56.out 2 rfl
      refine wpS_this [0, 1] rfl (by kernel_rfl) (by simp only [pickL, nthL, List.cons_append, List.nil_append]; rfl) ?_
      repeat (go_big_quiet_step (fail))
      refine wpQuiet_nil ?_
      clear Cb4 Cb5
      have Cb5 := Mem.cell HM56.out 2 rfl
      have Cb4 := Mem.cell HM56.out 3 rfl
      refine wpS_stay [3, 4] rfl (by kernel_rfl) (by simp only [pickL, nthL, List.cons_append, List.nil_append]; rfl) ?_
      repeat (go_big_quiet_step (fail))
      refine wpQuiet_nil ?_
      clear Cb5 Cb4
      refine wpS_does2 (i := 2) (d := some 62) (rem := [_, _, _, _]) (out := [_, _, _, _]) rfl (by rfl) rfl Try.call11 (compare_d a1 a2 b1 b2) rfl rfl HM56.out [] rfl (covS_box 3 rfl (covS_box 2 rfl (covS_box 1 rfl (covS_box 0 rfl covS_nil)))) rfl rfl ?_
      rintro W58 hm57 hg59
      rw [hc.out]
      have HM60 := Lib.hid hm57
      clear hm57
      simp only [Act.put, List.setIfInBounds_toArray, List.set_cons_succ, List.set_cons_zero]
      refine wpS_does2 (i := 5) (d := some 65) (rem := [_, _, _, _]) (out := [_, _, _, _]) rfl (by rfl) rfl Try.call11 (compare_d b1 b2 a1 a2) rfl rfl HM60.out [] rfl (covS_box 3 rfl (covS_box 2 rfl (covS_box 1 rfl (covS_box 0 rfl covS_nil)))) rfl rfl ?_
      rintro W62 hm61 hg63
      rw [hd.out]
      have HM64 := Lib.hid hm61
      clear hm61
      simp only [Act.put, List.setIfInBounds_toArray, List.set_cons_succ, List.set_cons_zero]
      have Cb4 := Mem.cell HM64.out 3 rfl
      have Cb5 := Mem.cell HM64.out 2 rfl
      refine wpS_this [6, 7, 8, 9, 10] rfl (by kernel_rfl) (by simp only [pickL, nthL, List.cons_append, List.nil_append]; rfl) ?_
      repeat (go_big_quiet_step (fail))
      refine wpQuiet_nil ?_
      clear Cb4 Cb5
      have Cb4 := Mem.cell HM64.out 3 rfl
      have Cb5 := Mem.cell HM64.out 2 rfl
      refine wpS_stay [13, 14] rfl (by kernel_rfl) (by simp only [pickL, nthL, List.cons_append, List.nil_append]; rfl) ?_
      repeat (go_big_quiet_step (fail))
      refine wpQuiet_nil ?_
      clear Cb4 Cb5
      refine wpS_read0 (i := 15) (d := some 75) rfl (by rfl) (fun _ => run_eqEb (p := (a1, a2)) (q := (b1, b2)) gab rfl rfl rfl) rfl ?_
      simp only [Act.put, List.setIfInBounds_toArray, List.set_cons_succ, List.set_cons_zero]
      refine wpS_does2 (i := 11) (d := some 71) (rem := [_, _, _, _]) (out := [_, _, _, _]) rfl (by rfl) rfl Try.call11 (compare_d a1 a2 b1 b2) rfl rfl HM64.out [] rfl (covS_box 3 rfl (covS_box 2 rfl (covS_box 1 rfl (covS_box 0 rfl covS_nil)))) rfl rfl ?_
      rintro W66 hm65 hg67
      rw [hc.out]
      have HM68 := Lib.hid hm65
      clear hm65
      simp only [Act.put, List.setIfInBounds_toArray, List.set_cons_succ, List.set_cons_zero]
      refine wpS_this [12, 16, 17] rfl (by kernel_rfl) (by simp only [pickL, nthL, List.cons_append, List.nil_append]; rfl) ?_
      repeat (go_big_quiet_step (fail))
      refine wpQuiet_nil ?_
      refine wpS_nil ?_
      refine then_normal ?_
      refine wp_cond_false rfl ?_
      refine wp_skip ?_
      refine then_normal ?_
      refine wp_seq ?_
      refine wp_region_N [(0, 1), (1, 1), (2, 3), (3, 1), (4, 1), (5, 1), (6, 3), (7, 3), (8, 1)] (by kernel_rfl) ?_
      have Cb4 := Mem.cell HM68.out 3 rfl
      refine wpS_this [0, 1] rfl (by kernel_rfl) (by simp only [pickL, nthL, List.cons_append, List.nil_append]; rfl) ?_
      repeat (go_big_quiet_step (fail))
      refine wpQuiet_nil ?_
      clear Cb4
      refine wpS_does2 (i := 2) (d := some 81) (rem := [_, _, _, _]) (out := [_, _, _, _]) rfl (by rfl) rfl Try.call7 (flip_d a1 a2 to f1 f2 fe hf.out) rfl rfl HM68.out [] rfl covS_nil rfl rfl ?_
      rintro W70 hm69 -
      have HM71 := Lib.hid hm69
      clear hm69
      simp only [Act.put, List.setIfInBounds_toArray, List.set_cons_succ, List.set_cons_zero]
      refine wpS_this [3, 4, 5] rfl (by kernel_rfl) (by simp only [pickL, nthL, List.cons_append, List.nil_append]; rfl) ?_
      repeat (go_big_quiet_step (fail))
      refine wpQuiet_nil ?_
      refine wpS_alloc (i := 6) (dd := 10) (z := .agg #[.int .i64 0, .int .i64 0]) (cs := #[.int .i64 0, .int .i64 0]) rfl (by rfl) rfl (by kernel_rfl) rfl HM71.out covS_nil rfl ?_
      rintro b74 W73 hm72 -
      have HM75 := Lib.hid hm72
      clear hm72
      simp only [Act.put, List.setIfInBounds_toArray, List.set_cons_succ, List.set_cons_zero]
      refine wpS_storeA (i := 7) (L2 := [_, _, _, _]) (cs' := [_, _]) rfl (by rfl) rfl rfl rfl (by kernel_rfl) (by rfl) HM75.out 0 rfl rfl rfl rfl covS_nil rfl ?_
      rintro W77 hm76 -
      have HM78 := Lib.hid hm76
      clear hm76
      refine wpS_this [8] rfl (by kernel_rfl) (by simp only [pickL, nthL, List.cons_append, List.nil_append]; rfl) ?_
      repeat (go_big_quiet_step (fail))
      refine wpQuiet_nil ?_
      refine wpS_nil ?_
      refine then_normal ?_
      refine wp_seq ?_
      by_cases hfe : fe = 0
      · have hok := flipE_ok (x := (a1, a2)) (to := to) (by rw [hf.out]; exact hfe)
        obtain ⟨ho1, ho2, ho3, ho4⟩ := hok
        have ho1 := hf.out.symm.trans ho1
        simp only [Prod.mk.injEq] at ho1
        obtain ⟨⟨hf1, hf2⟩, hf3⟩ := ho1
        subst f1
        subst f2
        subst fe
        have hbd := mayE_le ho2
        have hb0 : 0 ≤ a1 := hbd.1
        have hb1 : a1 < 1000000 := by have h1 : a1 ≤ 1000000 := hbd.2; have h2 : a1 ≠ 1000000 := ho4; omega
        have hmd := Lib.hid (mayE_next ho2 ho3 ho4)
        have hjd : Hid (joinE (a1, a2) (a1 + 1, to) = (a1 + 1, to)) := Lib.hid (if_pos (by rw [cmpE_next (a1, a2) to]; decide))
        clear ho2 ho3 ho4 hbd
        try clear hf3 hfe
        refine wp_region_M (fun k => k ∈ ([b3, b7, b11, b18, b74] : List Nat)) [(0, 1), (1, 1), (2, 1), (3, 1), (4, 1), (5, 3), (6, 1), (7, 1), (8, 1), (9, 1), (10, 1), (11, 1), (12, 1), (13, 1), (14, 1), (15, 1), (16, 1), (17, 1), (18, 1), (19, 1), (20, 1), (21, 1), (22, 1), (23, 1), (25, 2), (24, 3), (26, 1), (27, 1), (28, 1), (29, 1), (30, 3), (31, 1), (32, 1), (33, 1), (34, 3), (35, 1), (36, 1)] (by kernel_rfl) (by kernel_rfl) HM78.out ?_
        intro W79 hm80
        have HM81 := Lib.hid hm80
        clear hm80
        have Cb10 := Mem.cell HM81.out 0 rfl
        have Cb4 := Mem.cell HM81.out 4 rfl
        refine wpS_this [0, 1, 2, 3, 4] rfl (by kernel_rfl) (by simp only [pickL, nthL, List.cons_append, List.nil_append]; rfl) ?_
        repeat (go_big_quiet_step (fail))
        refine wpQuiet_nil ?_
        clear Cb10 Cb4
        refine wpS_does2 (i := 5) (d := some 89) (rem := [_, _, _, _, _]) (out := [_, _, _, _, _]) rfl (by rfl) rfl Try.call11 (compare_d (a1 + 1) to a1 a2) rfl rfl HM81.out [] rfl (covS_box 4 rfl (covS_box 3 rfl (covS_box 2 rfl (covS_box 1 rfl (covS_box 0 rfl covS_nil))))) rfl rfl ?_
        rintro W83 hm82 hg84
        rw [cmpE_next (a1, a2) to]
        have HM85 := Lib.hid hm82
        clear hm82
        simp only [Act.put, List.setIfInBounds_toArray, List.set_cons_succ, List.set_cons_zero]
        have Cb10 := Mem.cell HM85.out 0 rfl
        have Cb4 := Mem.cell HM85.out 4 rfl
        refine wpS_this [6, 7, 8, 9, 10, 11, 12, 13, 14, 15, 16, 17, 18, 19, 20, 21, 22, 23] rfl (by kernel_rfl) (by simp only [pickL, nthL, List.cons_append, List.nil_append]; rfl) ?_
        repeat (go_big_quiet_step (fail))
        refine wpQuiet_nil ?_
        clear Cb10 Cb4
        have Cb10 := Mem.cell HM85.out 0 rfl
        refine wpS_stay [25] rfl (by kernel_rfl) (by simp only [pickL, nthL, List.cons_append, List.nil_append]; rfl) ?_
        repeat (go_big_quiet_step (fail))
        refine wpQuiet_nil ?_
        clear Cb10
        refine wpS_does2 (i := 24) (d := some 108) (rem := [_, _, _, _, _]) (out := [_, _, _, _, _]) rfl (by rfl) rfl Try.call13 (join_d a1 a2 (a1 + 1) to (a1 + 1) to hjd.out) rfl rfl HM85.out [] rfl (covS_box 4 rfl (covS_box 3 rfl (covS_box 2 rfl (covS_box 1 rfl (covS_box 0 rfl covS_nil))))) rfl rfl ?_
        rintro W87 hm86 hg88
        have HM89 := Lib.hid hm86
        clear hm86
        simp only [Act.put, List.setIfInBounds_toArray, List.set_cons_succ, List.set_cons_zero]
        refine wpS_read (i := 26) (d := some 110) rfl (by rfl) (run_eqEb (p := (a1 + 1, to)) (q := (a1 + 1, to)) (decide_eq_true rfl) rfl rfl rfl) rfl ?_
        simp only [Act.put, List.setIfInBounds_toArray, List.set_cons_succ, List.set_cons_zero]
        have Cb10 := Mem.cell HM89.out 0 rfl
        refine wpS_this [27, 28, 29] rfl (by kernel_rfl) (by simp only [pickL, nthL, List.cons_append, List.nil_append]; rfl) ?_
        repeat (go_big_quiet_step (fail))
        refine wpQuiet_nil ?_
        clear Cb10
        refine wpS_does1 (i := 30) (d := some 114) (rem := [_, _, _, _, _]) (out := [_, _, _, _, _]) rfl (by rfl) rfl Try.call9 (may_d (a1 + 1) to) rfl HM89.out [] rfl (covS_box 4 rfl (covS_box 3 rfl (covS_box 2 rfl (covS_box 1 rfl (covS_box 0 rfl covS_nil))))) rfl rfl ?_
        rintro W91 hm90 hg92
        rw [hmd.out]
        have HM93 := Lib.hid hm90
        clear hm90
        simp only [Act.put, List.setIfInBounds_toArray, List.set_cons_succ, List.set_cons_zero]
        refine wpS_this [31, 32, 33] rfl (by kernel_rfl) (by simp only [pickL, nthL, List.cons_append, List.nil_append]; rfl) ?_
        repeat (go_big_quiet_step (fail))
        refine wpQuiet_nil ?_
        refine wpS_does0 (i := 34) (d := some 118) (rem := [_, _, _, _, _]) (out := [_, _, _, _, _]) rfl (by rfl) rfl Try.call15 (awake_d)  HM93.out [] rfl (covS_box 4 rfl (covS_box 3 rfl (covS_box 2 rfl (covS_box 1 rfl (covS_box 0 rfl covS_nil))))) rfl rfl ?_
        rintro W95 hm94 hg96
        have HM97 := Lib.hid hm94
        clear hm94
        simp only [Act.put, List.setIfInBounds_toArray, List.set_cons_succ, List.set_cons_zero]
        refine wpS_this [35, 36] rfl (by kernel_rfl) (by simp only [pickL, nthL, List.cons_append, List.nil_append]; rfl) ?_
        repeat (go_big_quiet_step (fail))
        refine wpQuiet_nil ?_
        refine wpS_nil ?_
        refine then_normal ?_
        refine wp_ret ?_
        refine bodyPost_ret (results_tmp rfl _ _ _) rfl ?_
        exact does_ret (Mem.only (M := []) HM97.out [] rfl) rfl rfl
      · have gfe : (fe != 0) = true := bne_iff_ne.2 hfe
        replace hfe := Lib.hid hfe
        refine wp_region_M (fun k => k ∈ ([b3, b7, b11, b18, b74] : List Nat)) [(0, 1), (1, 1), (2, 1), (3, 1), (4, 1), (5, 3), (6, 1), (7, 1), (8, 1), (9, 1), (10, 1), (11, 1), (12, 1), (13, 1), (14, 1), (15, 1), (16, 1), (17, 1), (18, 1), (19, 1), (20, 1), (21, 1), (22, 1), (23, 1), (25, 2), (24, 3), (26, 1), (27, 1), (28, 1), (29, 1), (30, 3), (31, 1), (32, 1), (33, 1), (34, 3), (35, 1), (36, 1)] (by kernel_rfl) (by kernel_rfl) HM78.out ?_
        intro W98 hm99
        have HM100 := Lib.hid hm99
        clear hm99
        have Cb10 := Mem.cell HM100.out 0 rfl
        have Cb4 := Mem.cell HM100.out 4 rfl
        refine wpS_this [0, 1, 2, 3, 4] rfl (by kernel_rfl) (by simp only [pickL, nthL, List.cons_append, List.nil_append]; rfl) ?_
        repeat (go_big_quiet_step (fail))
        refine wpQuiet_nil ?_
        clear Cb10 Cb4
        refine wpS_skip (i := 5) (d := some 89) rfl (by rfl) rfl ?_
        simp only [Act.put, List.setIfInBounds_toArray, List.set_cons_succ, List.set_cons_zero]
        have Cb10 := Mem.cell HM100.out 0 rfl
        have Cb4 := Mem.cell HM100.out 4 rfl
        refine wpS_this [6, 7, 8, 9, 10, 11, 12, 13, 14, 15, 16, 17, 18, 19, 20, 21, 22, 23] rfl (by kernel_rfl) (by simp only [pickL, nthL, List.cons_append, List.nil_append]; rfl) ?_
        repeat (go_big_quiet_step (fail))
        refine wpQuiet_nil ?_
        clear Cb10 Cb4
        have Cb10 := Mem.cell HM100.out 0 rfl
        refine wpS_stay [25] rfl (by kernel_rfl) (by simp only [pickL, nthL, List.cons_append, List.nil_append]; rfl) ?_
        repeat (go_big_quiet_step (fail))
        refine wpQuiet_nil ?_
        clear Cb10
        refine wpS_skip (i := 24) (d := some 108) rfl (by rfl) rfl ?_
        simp only [Act.put, List.setIfInBounds_toArray, List.set_cons_succ, List.set_cons_zero]
        refine wpS_skip (i := 26) (d := some 110) rfl (by rfl) rfl ?_
        simp only [Act.put, List.setIfInBounds_toArray, List.set_cons_succ, List.set_cons_zero]
        have Cb10 := Mem.cell HM100.out 0 rfl
        refine wpS_this [27, 28, 29] rfl (by kernel_rfl) (by simp only [pickL, nthL, List.cons_append, List.nil_append]; rfl) ?_
        repeat (go_big_quiet_step (fail))
        refine wpQuiet_nil ?_
        clear Cb10
        refine wpS_skip (i := 30) (d := some 114) rfl (by rfl) rfl ?_
        simp only [Act.put, List.setIfInBounds_toArray, List.set_cons_succ, List.set_cons_zero]
        refine wpS_this [31, 32, 33] rfl (by kernel_rfl) (by simp only [pickL, nthL, List.cons_append, List.nil_append]; rfl) ?_
        repeat (go_big_quiet_step (fail))
        refine wpQuiet_nil ?_
        refine wpS_does0 (i := 34) (d := some 118) (rem := [_, _, _, _, _]) (out := [_, _, _, _, _]) rfl (by rfl) rfl Try.call15 (awake_d)  HM100.out [] rfl (covS_box 4 rfl (covS_box 3 rfl (covS_box 2 rfl (covS_box 1 rfl (covS_box 0 rfl covS_nil))))) rfl rfl ?_
        rintro W102 hm101 hg103
        have HM104 := Lib.hid hm101
        clear hm101
        simp only [Act.put, List.setIfInBounds_toArray, List.set_cons_succ, List.set_cons_zero]
        refine wpS_this [35, 36] rfl (by kernel_rfl) (by simp only [pickL, nthL, List.cons_append, List.nil_append]; rfl) ?_
        repeat (go_big_quiet_step (fail))
        refine wpQuiet_nil ?_
        refine wpS_nil ?_
        refine then_normal ?_
        refine wp_ret ?_
        refine bodyPost_ret (results_tmp rfl _ _ _) rfl ?_
        exact does_ret (Mem.only (M := []) HM104.out [] rfl) rfl rfl
    · have gab : decide (((a1, a2) : En) = (b1, b2)) = false := decide_eq_false hab
      have gc : (c == 0) = false := beq_eq_false_iff_ne.2 (fun h => hab ((cmpE_zero _ _).1 (hc.out.trans h)))
      replace hab := Lib.hid hab
      refine wp_region_M (fun k => k ∈ ([b3, b7, b11, b18] : List Nat)) [(0, 1), (1, 1), (3, 2), (4, 2), (2, 3), (5, 3), (6, 1), (7, 1), (8, 1), (9, 1), (10, 1), (13, 2), (14, 2), (15, 0), (11, 3), (12, 1), (16, 1), (17, 1)] (by kernel_rfl) (by kernel_rfl) HM53.out ?_
      intro W105 hm106
      have HM107 := Lib.hid hm106
      clear hm106
      have Cb4 := Mem.cell HM107.out 3 rfl
      have Cb5 := Mem.cell HM107.out 2 rfl
      refine wpS_this [0, 1] rfl (by kernel_rfl) (by simp only [pickL, nthL, List.cons_append, List.nil_append]; rfl) ?_
      repeat (go_big_quiet_step (fail))
      refine wpQuiet_nil ?_
      clear Cb4 Cb5
      have Cb5 := Mem.cell HM107.out 2 rfl
      have Cb4 := Mem.cell HM107.out 3 rfl
      refine wpS_stay [3, 4] rfl (by kernel_rfl) (by simp only [pickL, nthL, List.cons_append, List.nil_append]; rfl) ?_
      repeat (go_big_quiet_step (fail))
      refine wpQuiet_nil ?_
      clear Cb5 Cb4
      refine wpS_does2 (i := 2) (d := some 62) (rem := [_, _, _, _]) (out := [_, _, _, _]) rfl (by rfl) rfl Try.call11 (compare_d a1 a2 b1 b2) rfl rfl HM107.out [] rfl (covS_box 3 rfl (covS_box 2 rfl (covS_box 1 rfl (covS_box 0 rfl covS_nil)))) rfl rfl ?_
      rintro W109 hm108 hg110
      rw [hc.out]
      have HM111 := Lib.hid hm108
      clear hm108
      simp only [Act.put, List.setIfInBounds_toArray, List.set_cons_succ, List.set_cons_zero]
      refine wpS_does2 (i := 5) (d := some 65) (rem := [_, _, _, _]) (out := [_, _, _, _]) rfl (by rfl) rfl Try.call11 (compare_d b1 b2 a1 a2) rfl rfl HM111.out [] rfl (covS_box 3 rfl (covS_box 2 rfl (covS_box 1 rfl (covS_box 0 rfl covS_nil)))) rfl rfl ?_
      rintro W113 hm112 hg114
      rw [hd.out]
      have HM115 := Lib.hid hm112
      clear hm112
      simp only [Act.put, List.setIfInBounds_toArray, List.set_cons_succ, List.set_cons_zero]
      have Cb4 := Mem.cell HM115.out 3 rfl
      have Cb5 := Mem.cell HM115.out 2 rfl
      refine wpS_this [6, 7, 8, 9, 10] rfl (by kernel_rfl) (by simp only [pickL, nthL, List.cons_append, List.nil_append]; rfl) ?_
      repeat (go_big_quiet_step (fail))
      refine wpQuiet_nil ?_
      clear Cb4 Cb5
      have Cb4 := Mem.cell HM115.out 3 rfl
      have Cb5 := Mem.cell HM115.out 2 rfl
      refine wpS_stay [13, 14] rfl (by kernel_rfl) (by simp only [pickL, nthL, List.cons_append, List.nil_append]; rfl) ?_
      repeat (go_big_quiet_step (fail))
      refine wpQuiet_nil ?_
      clear Cb4 Cb5
      refine wpS_read0 (i := 15) (d := some 75) rfl (by rfl) (fun _ => run_eqEb (p := (a1, a2)) (q := (b1, b2)) gab rfl rfl rfl) rfl ?_
      simp only [Act.put, List.setIfInBounds_toArray, List.set_cons_succ, List.set_cons_zero]
      refine wpS_does2 (i := 11) (d := some 71) (rem := [_, _, _, _]) (out := [_, _, _, _]) rfl (by rfl) rfl Try.call11 (compare_d a1 a2 b1 b2) rfl rfl HM115.out [] rfl (covS_box 3 rfl (covS_box 2 rfl (covS_box 1 rfl (covS_box 0 rfl covS_nil)))) rfl rfl ?_
      rintro W117 hm116 hg118
      rw [hc.out]
      have HM119 := Lib.hid hm116
      clear hm116
      simp only [Act.put, List.setIfInBounds_toArray, List.set_cons_succ, List.set_cons_zero]
      refine wpS_this [12, 16, 17] rfl (by kernel_rfl) (by simp only [pickL, nthL, List.cons_append, List.nil_append]; rfl) ?_
      repeat (go_big_quiet_step (fail))
      refine wpQuiet_nil ?_
      refine wpS_nil ?_
      refine then_normal ?_
      refine wp_cond_false rfl ?_
      refine wp_skip ?_
      refine then_normal ?_
      refine wp_seq ?_
      refine wp_region_N [(0, 1), (1, 1), (2, 3), (3, 1), (4, 1), (5, 1), (6, 3), (7, 3), (8, 1)] (by kernel_rfl) ?_
      have Cb4 := Mem.cell HM119.out 3 rfl
      refine wpS_this [0, 1] rfl (by kernel_rfl) (by simp only [pickL, nthL, List.cons_append, List.nil_append]; rfl) ?_
      repeat (go_big_quiet_step (fail))
      refine wpQuiet_nil ?_
      clear Cb4
      refine wpS_does2 (i := 2) (d := some 81) (rem := [_, _, _, _]) (out := [_, _, _, _]) rfl (by rfl) rfl Try.call7 (flip_d a1 a2 to f1 f2 fe hf.out) rfl rfl HM119.out [] rfl covS_nil rfl rfl ?_
      rintro W121 hm120 -
      have HM122 := Lib.hid hm120
      clear hm120
      simp only [Act.put, List.setIfInBounds_toArray, List.set_cons_succ, List.set_cons_zero]
      refine wpS_this [3, 4, 5] rfl (by kernel_rfl) (by simp only [pickL, nthL, List.cons_append, List.nil_append]; rfl) ?_
      repeat (go_big_quiet_step (fail))
      refine wpQuiet_nil ?_
      refine wpS_alloc (i := 6) (dd := 10) (z := .agg #[.int .i64 0, .int .i64 0]) (cs := #[.int .i64 0, .int .i64 0]) rfl (by rfl) rfl (by kernel_rfl) rfl HM122.out covS_nil rfl ?_
      rintro b125 W124 hm123 -
      have HM126 := Lib.hid hm123
      clear hm123
      simp only [Act.put, List.setIfInBounds_toArray, List.set_cons_succ, List.set_cons_zero]
      refine wpS_storeA (i := 7) (L2 := [_, _, _, _]) (cs' := [_, _]) rfl (by rfl) rfl rfl rfl (by kernel_rfl) (by rfl) HM126.out 0 rfl rfl rfl rfl covS_nil rfl ?_
      rintro W128 hm127 -
      have HM129 := Lib.hid hm127
      clear hm127
      refine wpS_this [8] rfl (by kernel_rfl) (by simp only [pickL, nthL, List.cons_append, List.nil_append]; rfl) ?_
      repeat (go_big_quiet_step (fail))
      refine wpQuiet_nil ?_
      refine wpS_nil ?_
      refine then_normal ?_
      refine wp_seq ?_
      by_cases hfe : fe = 0
      · have hok := flipE_ok (x := (a1, a2)) (to := to) (by rw [hf.out]; exact hfe)
        obtain ⟨ho1, ho2, ho3, ho4⟩ := hok
        have ho1 := hf.out.symm.trans ho1
        simp only [Prod.mk.injEq] at ho1
        obtain ⟨⟨hf1, hf2⟩, hf3⟩ := ho1
        subst f1
        subst f2
        subst fe
        have hbd := mayE_le ho2
        have hb0 : 0 ≤ a1 := hbd.1
        have hb1 : a1 < 1000000 := by have h1 : a1 ≤ 1000000 := hbd.2; have h2 : a1 ≠ 1000000 := ho4; omega
        have hmd := Lib.hid (mayE_next ho2 ho3 ho4)
        have hjd : Hid (joinE (a1, a2) (a1 + 1, to) = (a1 + 1, to)) := Lib.hid (if_pos (by rw [cmpE_next (a1, a2) to]; decide))
        clear ho2 ho3 ho4 hbd
        try clear hf3 hfe
        refine wp_region_M (fun k => k ∈ ([b3, b7, b11, b18, b125] : List Nat)) [(0, 1), (1, 1), (2, 1), (3, 1), (4, 1), (5, 3), (6, 1), (7, 1), (8, 1), (9, 1), (10, 1), (11, 1), (12, 1), (13, 1), (14, 1), (15, 1), (16, 1), (17, 1), (18, 1), (19, 1), (20, 1), (21, 1), (22, 1), (23, 1), (25, 2), (24, 3), (26, 1), (27, 1), (28, 1), (29, 1), (30, 3), (31, 1), (32, 1), (33, 1), (34, 3), (35, 1), (36, 1)] (by kernel_rfl) (by kernel_rfl) HM129.out ?_
        intro W130 hm131
        have HM132 := Lib.hid hm131
        clear hm131
        have Cb10 := Mem.cell HM132.out 0 rfl
        have Cb4 := Mem.cell HM132.out 4 rfl
        refine wpS_this [0, 1, 2, 3, 4] rfl (by kernel_rfl) (by simp only [pickL, nthL, List.cons_append, List.nil_append]; rfl) ?_
        repeat (go_big_quiet_step (fail))
        refine wpQuiet_nil ?_
        clear Cb10 Cb4
        refine wpS_does2 (i := 5) (d := some 89) (rem := [_, _, _, _, _]) (out := [_, _, _, _, _]) rfl (by rfl) rfl Try.call11 (compare_d (a1 + 1) to a1 a2) rfl rfl HM132.out [] rfl (covS_box 4 rfl (covS_box 3 rfl (covS_box 2 rfl (covS_box 1 rfl (covS_box 0 rfl covS_nil))))) rfl rfl ?_
        rintro W134 hm133 hg135
        rw [cmpE_next (a1, a2) to]
        have HM136 := Lib.hid hm133
        clear hm133
        simp only [Act.put, List.setIfInBounds_toArray, List.set_cons_succ, List.set_cons_zero]
        have Cb10 := Mem.cell HM136.out 0 rfl
        have Cb4 := Mem.cell HM136.out 4 rfl
        refine wpS_this [6, 7, 8, 9, 10, 11, 12, 13, 14, 15, 16, 17, 18, 19, 20, 21, 22, 23] rfl (by kernel_rfl) (by simp only [pickL, nthL, List.cons_append, List.nil_append]; rfl) ?_
        repeat (go_big_quiet_step (fail))
        refine wpQuiet_nil ?_
        clear Cb10 Cb4
        have Cb10 := Mem.cell HM136.out 0 rfl
        refine wpS_stay [25] rfl (by kernel_rfl) (by simp only [pickL, nthL, List.cons_append, List.nil_append]; rfl) ?_
        repeat (go_big_quiet_step (fail))
        refine wpQuiet_nil ?_
        clear Cb10
        refine wpS_does2 (i := 24) (d := some 108) (rem := [_, _, _, _, _]) (out := [_, _, _, _, _]) rfl (by rfl) rfl Try.call13 (join_d a1 a2 (a1 + 1) to (a1 + 1) to hjd.out) rfl rfl HM136.out [] rfl (covS_box 4 rfl (covS_box 3 rfl (covS_box 2 rfl (covS_box 1 rfl (covS_box 0 rfl covS_nil))))) rfl rfl ?_
        rintro W138 hm137 hg139
        have HM140 := Lib.hid hm137
        clear hm137
        simp only [Act.put, List.setIfInBounds_toArray, List.set_cons_succ, List.set_cons_zero]
        refine wpS_read (i := 26) (d := some 110) rfl (by rfl) (run_eqEb (p := (a1 + 1, to)) (q := (a1 + 1, to)) (decide_eq_true rfl) rfl rfl rfl) rfl ?_
        simp only [Act.put, List.setIfInBounds_toArray, List.set_cons_succ, List.set_cons_zero]
        have Cb10 := Mem.cell HM140.out 0 rfl
        refine wpS_this [27, 28, 29] rfl (by kernel_rfl) (by simp only [pickL, nthL, List.cons_append, List.nil_append]; rfl) ?_
        repeat (go_big_quiet_step (fail))
        refine wpQuiet_nil ?_
        clear Cb10
        refine wpS_does1 (i := 30) (d := some 114) (rem := [_, _, _, _, _]) (out := [_, _, _, _, _]) rfl (by rfl) rfl Try.call9 (may_d (a1 + 1) to) rfl HM140.out [] rfl (covS_box 4 rfl (covS_box 3 rfl (covS_box 2 rfl (covS_box 1 rfl (covS_box 0 rfl covS_nil))))) rfl rfl ?_
        rintro W142 hm141 hg143
        rw [hmd.out]
        have HM144 := Lib.hid hm141
        clear hm141
        simp only [Act.put, List.setIfInBounds_toArray, List.set_cons_succ, List.set_cons_zero]
        refine wpS_this [31, 32, 33] rfl (by kernel_rfl) (by simp only [pickL, nthL, List.cons_append, List.nil_append]; rfl) ?_
        repeat (go_big_quiet_step (fail))
        refine wpQuiet_nil ?_
        refine wpS_does0 (i := 34) (d := some 118) (rem := [_, _, _, _, _]) (out := [_, _, _, _, _]) rfl (by rfl) rfl Try.call15 (awake_d)  HM144.out [] rfl (covS_box 4 rfl (covS_box 3 rfl (covS_box 2 rfl (covS_box 1 rfl (covS_box 0 rfl covS_nil))))) rfl rfl ?_
        rintro W146 hm145 hg147
        have HM148 := Lib.hid hm145
        clear hm145
        simp only [Act.put, List.setIfInBounds_toArray, List.set_cons_succ, List.set_cons_zero]
        refine wpS_this [35, 36] rfl (by kernel_rfl) (by simp only [pickL, nthL, List.cons_append, List.nil_append]; rfl) ?_
        repeat (go_big_quiet_step (fail))
        refine wpQuiet_nil ?_
        refine wpS_nil ?_
        refine then_normal ?_
        refine wp_ret ?_
        refine bodyPost_ret (results_tmp rfl _ _ _) rfl ?_
        exact does_ret (Mem.only (M := []) HM148.out [] rfl) rfl rfl
      · have gfe : (fe != 0) = true := bne_iff_ne.2 hfe
        replace hfe := Lib.hid hfe
        refine wp_region_M (fun k => k ∈ ([b3, b7, b11, b18, b125] : List Nat)) [(0, 1), (1, 1), (2, 1), (3, 1), (4, 1), (5, 3), (6, 1), (7, 1), (8, 1), (9, 1), (10, 1), (11, 1), (12, 1), (13, 1), (14, 1), (15, 1), (16, 1), (17, 1), (18, 1), (19, 1), (20, 1), (21, 1), (22, 1), (23, 1), (25, 2), (24, 3), (26, 1), (27, 1), (28, 1), (29, 1), (30, 3), (31, 1), (32, 1), (33, 1), (34, 3), (35, 1), (36, 1)] (by kernel_rfl) (by kernel_rfl) HM129.out ?_
        intro W149 hm150
        have HM151 := Lib.hid hm150
        clear hm150
        have Cb10 := Mem.cell HM151.out 0 rfl
        have Cb4 := Mem.cell HM151.out 4 rfl
        refine wpS_this [0, 1, 2, 3, 4] rfl (by kernel_rfl) (by simp only [pickL, nthL, List.cons_append, List.nil_append]; rfl) ?_
        repeat (go_big_quiet_step (fail))
        refine wpQuiet_nil ?_
        clear Cb10 Cb4
        refine wpS_skip (i := 5) (d := some 89) rfl (by rfl) rfl ?_
        simp only [Act.put, List.setIfInBounds_toArray, List.set_cons_succ, List.set_cons_zero]
        have Cb10 := Mem.cell HM151.out 0 rfl
        have Cb4 := Mem.cell HM151.out 4 rfl
        refine wpS_this [6, 7, 8, 9, 10, 11, 12, 13, 14, 15, 16, 17, 18, 19, 20, 21, 22, 23] rfl (by kernel_rfl) (by simp only [pickL, nthL, List.cons_append, List.nil_append]; rfl) ?_
        repeat (go_big_quiet_step (fail))
        refine wpQuiet_nil ?_
        clear Cb10 Cb4
        have Cb10 := Mem.cell HM151.out 0 rfl
        refine wpS_stay [25] rfl (by kernel_rfl) (by simp only [pickL, nthL, List.cons_append, List.nil_append]; rfl) ?_
        repeat (go_big_quiet_step (fail))
        refine wpQuiet_nil ?_
        clear Cb10
        refine wpS_skip (i := 24) (d := some 108) rfl (by rfl) rfl ?_
        simp only [Act.put, List.setIfInBounds_toArray, List.set_cons_succ, List.set_cons_zero]
        refine wpS_skip (i := 26) (d := some 110) rfl (by rfl) rfl ?_
        simp only [Act.put, List.setIfInBounds_toArray, List.set_cons_succ, List.set_cons_zero]
        have Cb10 := Mem.cell HM151.out 0 rfl
        refine wpS_this [27, 28, 29] rfl (by kernel_rfl) (by simp only [pickL, nthL, List.cons_append, List.nil_append]; rfl) ?_
        repeat (go_big_quiet_step (fail))
        refine wpQuiet_nil ?_
        clear Cb10
        refine wpS_skip (i := 30) (d := some 114) rfl (by rfl) rfl ?_
        simp only [Act.put, List.setIfInBounds_toArray, List.set_cons_succ, List.set_cons_zero]
        refine wpS_this [31, 32, 33] rfl (by kernel_rfl) (by simp only [pickL, nthL, List.cons_append, List.nil_append]; rfl) ?_
        repeat (go_big_quiet_step (fail))
        refine wpQuiet_nil ?_
        refine wpS_does0 (i := 34) (d := some 118) (rem := [_, _, _, _, _]) (out := [_, _, _, _, _]) rfl (by rfl) rfl Try.call15 (awake_d)  HM151.out [] rfl (covS_box 4 rfl (covS_box 3 rfl (covS_box 2 rfl (covS_box 1 rfl (covS_box 0 rfl covS_nil))))) rfl rfl ?_
        rintro W153 hm152 hg154
        have HM155 := Lib.hid hm152
        clear hm152
        simp only [Act.put, List.setIfInBounds_toArray, List.set_cons_succ, List.set_cons_zero]
        refine wpS_this [35, 36] rfl (by kernel_rfl) (by simp only [pickL, nthL, List.cons_append, List.nil_append]; rfl) ?_
        repeat (go_big_quiet_step (fail))
        refine wpQuiet_nil ?_
        refine wpS_nil ?_
        refine then_normal ?_
        refine wp_ret ?_
        refine bodyPost_ret (results_tmp rfl _ _ _) rfl ?_
        exact does_ret (Mem.only (M := []) HM155.out [] rfl) rfl rfl
  · have gxa : (!decide (((x1, x2) : En) = (a1, a2))) = true := by simp [hxa]
    have hxb : ((x1, x2) : En) = (b1, b2) := hx.out.symm.trans ((joinE_or (a1, a2) (b1, b2)).resolve_left fun h => hxa (hx.out.symm.trans h))
    have gxb : (!decide (((x1, x2) : En) = (b1, b2))) = false := by simp [hxb]
    replace hxa := Lib.hid hxa
    replace hxb := Lib.hid hxb
    refine wp_region_M (fun k => k ∈ ([b3, b7, b11, b18] : List Nat)) [(0, 2), (1, 1), (2, 1), (3, 3), (4, 1), (5, 1), (6, 1), (7, 1), (8, 1), (9, 1), (10, 1), (11, 1), (12, 1), (13, 1), (14, 1), (15, 1), (16, 1), (17, 1), (19, 2), (20, 2), (21, 2), (18, 3), (22, 3), (23, 3), (24, 1), (25, 1), (26, 1), (27, 1), (28, 1), (30, 2), (29, 3), (31, 1), (32, 1), (33, 1), (34, 1), (35, 1), (36, 3), (37, 1), (38, 1), (39, 1), (40, 1), (41, 1), (42, 3), (43, 1), (44, 1)] (by kernel_rfl) (by kernel_rfl) HM22.out ?_
    intro W156 hm157
    have HM158 := Lib.hid hm157
    clear hm157
    have Cb9 := Mem.cell HM158.out 0 rfl
    refine wpS_stay [0] rfl (by kernel_rfl) (by simp only [pickL, nthL, List.cons_append, List.nil_append]; rfl) ?_
    repeat (go_big_quiet_step (fail))
    refine wpQuiet_nil ?_
    clear Cb9
    have Cb5 := Mem.cell HM158.out 2 rfl
    have Cb4 := Mem.cell HM158.out 3 rfl
    refine wpS_this [1, 2] rfl (by kernel_rfl) (by simp only [pickL, nthL, List.cons_append, List.nil_append]; rfl) ?_
    repeat (go_big_quiet_step (fail))
    refine wpQuiet_nil ?_
    clear Cb5 Cb4
    refine wpS_does2 (i := 3) (d := some 18) (rem := [_, _, _, _]) (out := [_, _, _, _]) rfl (by rfl) rfl Try.call13 (join_d b1 b2 a1 a2 x1 x2 ((joinE_comm _ _).trans hx.out)) rfl rfl HM158.out [] rfl (covS_box 3 rfl (covS_box 2 rfl (covS_box 1 rfl (covS_box 0 rfl covS_nil)))) rfl rfl ?_
    rintro W160 hm159 hg161
    have HM162 := Lib.hid hm159
    clear hm159
    simp only [Act.put, List.setIfInBounds_toArray, List.set_cons_succ, List.set_cons_zero]
    refine wpS_read (i := 4) (d := some 19) rfl (by rfl) (run_neEb (p := (x1, x2)) (q := (x1, x2)) (ne_selfE _) rfl rfl rfl) rfl ?_
    simp only [Act.put, List.setIfInBounds_toArray, List.set_cons_succ, List.set_cons_zero]
    have Cb9 := Mem.cell HM162.out 0 rfl
    have Cb4 := Mem.cell HM162.out 3 rfl
    refine wpS_this [5, 6, 7] rfl (by kernel_rfl) (by simp only [pickL, nthL, List.cons_append, List.nil_append]; rfl) ?_
    repeat (go_big_quiet_step (fail))
    refine wpQuiet_nil ?_
    clear Cb9 Cb4
    refine wpS_read (i := 8) (d := some 23) rfl (by rfl) (run_neEb (p := (x1, x2)) (q := (a1, a2)) gxa rfl rfl rfl) rfl ?_
    simp only [Act.put, List.setIfInBounds_toArray, List.set_cons_succ, List.set_cons_zero]
    have Cb9 := Mem.cell HM162.out 0 rfl
    have Cb5 := Mem.cell HM162.out 2 rfl
    refine wpS_this [9, 10, 11] rfl (by kernel_rfl) (by simp only [pickL, nthL, List.cons_append, List.nil_append]; rfl) ?_
    repeat (go_big_quiet_step (fail))
    refine wpQuiet_nil ?_
    clear Cb9 Cb5
    refine wpS_read (i := 12) (d := some 27) rfl (by rfl) (run_neEb (p := (x1, x2)) (q := (b1, b2)) gxb rfl rfl rfl) rfl ?_
    simp only [Act.put, List.setIfInBounds_toArray, List.set_cons_succ, List.set_cons_zero]
    have Cb9 := Mem.cell HM162.out 0 rfl
    have Cb6 := Mem.cell HM162.out 1 rfl
    refine wpS_this [13, 14, 15, 16, 17] rfl (by kernel_rfl) (by simp only [pickL, nthL, List.cons_append, List.nil_append]; rfl) ?_
    repeat (go_big_quiet_step (fail))
    refine wpQuiet_nil ?_
    clear Cb9 Cb6
    have Cb4 := Mem.cell HM162.out 3 rfl
    have Cb5 := Mem.cell HM162.out 2 rfl
    have Cb6 := Mem.cell HM162.out 1 rfl
    refine wpS_stay [19, 20, 21] rfl (by kernel_rfl) (by simp only [pickL, nthL, List.cons_append, List.nil_append]; rfl) ?_
    repeat (go_big_quiet_step (fail))
    refine wpQuiet_nil ?_
    clear Cb4 Cb5 Cb6
    refine wpS_does2 (i := 18) (d := some 33) (rem := [_, _, _, _]) (out := [_, _, _, _]) rfl (by rfl) rfl Try.call13 (join_d x1 x2 c1 c2 y1 y2 hy.out) rfl rfl HM162.out [] rfl (covS_box 3 rfl (covS_box 2 rfl (covS_box 1 rfl (covS_box 0 rfl covS_nil)))) rfl rfl ?_
    rintro W164 hm163 hg165
    have HM166 := Lib.hid hm163
    clear hm163
    simp only [Act.put, List.setIfInBounds_toArray, List.set_cons_succ, List.set_cons_zero]
    refine wpS_does2 (i := 22) (d := some 37) (rem := [_, _, _, _]) (out := [_, _, _, _]) rfl (by rfl) rfl Try.call13 (join_d b1 b2 c1 c2 z1 z2 hz.out) rfl rfl HM166.out [] rfl (covS_box 3 rfl (covS_box 2 rfl (covS_box 1 rfl (covS_box 0 rfl covS_nil)))) rfl rfl ?_
    rintro W168 hm167 hg169
    have HM170 := Lib.hid hm167
    clear hm167
    simp only [Act.put, List.setIfInBounds_toArray, List.set_cons_succ, List.set_cons_zero]
    refine wpS_does2 (i := 23) (d := some 38) (rem := [_, _, _, _]) (out := [_, _, _, _]) rfl (by rfl) rfl Try.call13 (join_d a1 a2 z1 z2 y1 y2 (by rw [← hz.out, ← joinE_assoc, hx.out, hy.out])) rfl rfl HM170.out [] rfl (covS_box 3 rfl (covS_box 2 rfl (covS_box 1 rfl (covS_box 0 rfl covS_nil)))) rfl rfl ?_
    rintro W172 hm171 hg173
    have HM174 := Lib.hid hm171
    clear hm171
    simp only [Act.put, List.setIfInBounds_toArray, List.set_cons_succ, List.set_cons_zero]
    refine wpS_read (i := 24) (d := some 39) rfl (by rfl) (run_neEb (p := (y1, y2)) (q := (y1, y2)) (ne_selfE _) rfl rfl rfl) rfl ?_
    simp only [Act.put, List.setIfInBounds_toArray, List.set_cons_succ, List.set_cons_zero]
    have Cb4 := Mem.cell HM174.out 3 rfl
    refine wpS_this [25, 26, 27, 28] rfl (by kernel_rfl) (by simp only [pickL, nthL, List.cons_append, List.nil_append]; rfl) ?_
    repeat (go_big_quiet_step (fail))
    refine wpQuiet_nil ?_
    clear Cb4
    have Cb4 := Mem.cell HM174.out 3 rfl
    refine wpS_stay [30] rfl (by kernel_rfl) (by simp only [pickL, nthL, List.cons_append, List.nil_append]; rfl) ?_
    repeat (go_big_quiet_step (fail))
    refine wpQuiet_nil ?_
    clear Cb4
    refine wpS_does2 (i := 29) (d := some 44) (rem := [_, _, _, _]) (out := [_, _, _, _]) rfl (by rfl) rfl Try.call13 (join_d a1 a2 a1 a2 a1 a2 (joinE_self _)) rfl rfl HM174.out [] rfl (covS_box 3 rfl (covS_box 2 rfl (covS_box 1 rfl (covS_box 0 rfl covS_nil)))) rfl rfl ?_
    rintro W176 hm175 hg177
    have HM178 := Lib.hid hm175
    clear hm175
    simp only [Act.put, List.setIfInBounds_toArray, List.set_cons_succ, List.set_cons_zero]
    refine wpS_read (i := 31) (d := some 46) rfl (by rfl) (run_neEb (p := (a1, a2)) (q := (a1, a2)) (ne_selfE _) rfl rfl rfl) rfl ?_
    simp only [Act.put, List.setIfInBounds_toArray, List.set_cons_succ, List.set_cons_zero]
    have Cb4 := Mem.cell HM178.out 3 rfl
    have Cb9 := Mem.cell HM178.out 0 rfl
    refine wpS_this [32, 33, 34, 35] rfl (by kernel_rfl) (by simp only [pickL, nthL, List.cons_append, List.nil_append]; rfl) ?_
    repeat (go_big_quiet_step (fail))
    refine wpQuiet_nil ?_
    clear Cb4 Cb9
    refine wpS_does2 (i := 36) (d := some 51) (rem := [_, _, _, _]) (out := [_, _, _, _]) rfl (by rfl) rfl Try.call11 (compare_d a1 a2 x1 x2) rfl rfl HM178.out [] rfl (covS_box 3 rfl (covS_box 2 rfl (covS_box 1 rfl (covS_box 0 rfl covS_nil)))) rfl rfl ?_
    rintro W180 hm179 hg181
    rw [hp.out]
    have HM182 := Lib.hid hm179
    clear hm179
    simp only [Act.put, List.setIfInBounds_toArray, List.set_cons_succ, List.set_cons_zero]
    have Cb5 := Mem.cell HM182.out 2 rfl
    have Cb9 := Mem.cell HM182.out 0 rfl
    refine wpS_this [37, 38, 39, 40, 41] rfl (by kernel_rfl) (by simp only [pickL, nthL, List.cons_append, List.nil_append]; rfl) ?_
    repeat (go_big_quiet_step (fail))
    refine wpQuiet_nil ?_
    clear Cb5 Cb9
    refine wpS_does2 (i := 42) (d := some 57) (rem := [_, _, _, _]) (out := [_, _, _, _]) rfl (by rfl) rfl Try.call11 (compare_d b1 b2 x1 x2) rfl rfl HM182.out [] rfl (covS_box 3 rfl (covS_box 2 rfl (covS_box 1 rfl (covS_box 0 rfl covS_nil)))) rfl rfl ?_
    rintro W184 hm183 hg185
    rw [hq.out]
    have HM186 := Lib.hid hm183
    clear hm183
    simp only [Act.put, List.setIfInBounds_toArray, List.set_cons_succ, List.set_cons_zero]
    refine wpS_this [43, 44] rfl (by kernel_rfl) (by simp only [pickL, nthL, List.cons_append, List.nil_append]; rfl) ?_
    repeat (go_big_quiet_step (fail))
    refine wpQuiet_nil ?_
    refine wpS_nil ?_
    refine then_normal ?_
    refine wp_cond_false rfl ?_
    refine wp_skip ?_
    refine then_normal ?_
    refine wp_seq ?_
    refine wp_seq ?_
    by_cases hab : ((a1, a2) : En) = (b1, b2)
    · have gab : decide (((a1, a2) : En) = (b1, b2)) = true := decide_eq_true hab
      have gc : (c == 0) = true := beq_iff_eq.2 (hc.out.symm.trans ((cmpE_zero _ _).2 hab))
      replace hab := Lib.hid hab
      refine wp_region_M (fun k => k ∈ ([b3, b7, b11, b18] : List Nat)) [(0, 1), (1, 1), (3, 2), (4, 2), (2, 3), (5, 3), (6, 1), (7, 1), (8, 1), (9, 1), (10, 1), (13, 2), (14, 2), (15, 0), (11, 3), (12, 1), (16, 1), (17, 1)] (by kernel_rfl) (by kernel_rfl) HM186.out ?_
      intro W187 hm188
      have HM189 := Lib.hid hm188
      clear hm188
      have Cb4 := Mem.cell HM189.out 3 rfl
      have Cb5 := Mem.cell HM189.out 2 rfl
      refine wpS_this [0, 1] rfl (by kernel_rfl) (by simp only [pickL, nthL, List.cons_append, List.nil_append]; rfl) ?_
      repeat (go_big_quiet_step (fail))
      refine wpQuiet_nil ?_
      clear Cb4 Cb5
      have Cb5 := Mem.cell HM189.out 2 rfl
      have Cb4 := Mem.cell HM189.out 3 rfl
      refine wpS_stay [3, 4] rfl (by kernel_rfl) (by simp only [pickL, nthL, List.cons_append, List.nil_append]; rfl) ?_
      repeat (go_big_quiet_step (fail))
      refine wpQuiet_nil ?_
      clear Cb5 Cb4
      refine wpS_does2 (i := 2) (d := some 62) (rem := [_, _, _, _]) (out := [_, _, _, _]) rfl (by rfl) rfl Try.call11 (compare_d a1 a2 b1 b2) rfl rfl HM189.out [] rfl (covS_box 3 rfl (covS_box 2 rfl (covS_box 1 rfl (covS_box 0 rfl covS_nil)))) rfl rfl ?_
      rintro W191 hm190 hg192
      rw [hc.out]
      have HM193 := Lib.hid hm190
      clear hm190
      simp only [Act.put, List.setIfInBounds_toArray, List.set_cons_succ, List.set_cons_zero]
      refine wpS_does2 (i := 5) (d := some 65) (rem := [_, _, _, _]) (out := [_, _, _, _]) rfl (by rfl) rfl Try.call11 (compare_d b1 b2 a1 a2) rfl rfl HM193.out [] rfl (covS_box 3 rfl (covS_box 2 rfl (covS_box 1 rfl (covS_box 0 rfl covS_nil)))) rfl rfl ?_
      rintro W195 hm194 hg196
      rw [hd.out]
      have HM197 := Lib.hid hm194
      clear hm194
      simp only [Act.put, List.setIfInBounds_toArray, List.set_cons_succ, List.set_cons_zero]
      have Cb4 := Mem.cell HM197.out 3 rfl
      have Cb5 := Mem.cell HM197.out 2 rfl
      refine wpS_this [6, 7, 8, 9, 10] rfl (by kernel_rfl) (by simp only [pickL, nthL, List.cons_append, List.nil_append]; rfl) ?_
      repeat (go_big_quiet_step (fail))
      refine wpQuiet_nil ?_
      clear Cb4 Cb5
      have Cb4 := Mem.cell HM197.out 3 rfl
      have Cb5 := Mem.cell HM197.out 2 rfl
      refine wpS_stay [13, 14] rfl (by kernel_rfl) (by simp only [pickL, nthL, List.cons_append, List.nil_append]; rfl) ?_
      repeat (go_big_quiet_step (fail))
      refine wpQuiet_nil ?_
      clear Cb4 Cb5
      refine wpS_read0 (i := 15) (d := some 75) rfl (by rfl) (fun _ => run_eqEb (p := (a1, a2)) (q := (b1, b2)) gab rfl rfl rfl) rfl ?_
      simp only [Act.put, List.setIfInBounds_toArray, List.set_cons_succ, List.set_cons_zero]
      refine wpS_does2 (i := 11) (d := some 71) (rem := [_, _, _, _]) (out := [_, _, _, _]) rfl (by rfl) rfl Try.call11 (compare_d a1 a2 b1 b2) rfl rfl HM197.out [] rfl (covS_box 3 rfl (covS_box 2 rfl (covS_box 1 rfl (covS_box 0 rfl covS_nil)))) rfl rfl ?_
      rintro W199 hm198 hg200
      rw [hc.out]
      have HM201 := Lib.hid hm198
      clear hm198
      simp only [Act.put, List.setIfInBounds_toArray, List.set_cons_succ, List.set_cons_zero]
      refine wpS_this [12, 16, 17] rfl (by kernel_rfl) (by simp only [pickL, nthL, List.cons_append, List.nil_append]; rfl) ?_
      repeat (go_big_quiet_step (fail))
      refine wpQuiet_nil ?_
      refine wpS_nil ?_
      refine then_normal ?_
      refine wp_cond_false rfl ?_
      refine wp_skip ?_
      refine then_normal ?_
      refine wp_seq ?_
      refine wp_region_N [(0, 1), (1, 1), (2, 3), (3, 1), (4, 1), (5, 1), (6, 3), (7, 3), (8, 1)] (by kernel_rfl) ?_
      have Cb4 := Mem.cell HM201.out 3 rfl
      refine wpS_this [0, 1] rfl (by kernel_rfl) (by simp only [pickL, nthL, List.cons_append, List.nil_append]; rfl) ?_
      repeat (go_big_quiet_step (fail))
      refine wpQuiet_nil ?_
      clear Cb4
      refine wpS_does2 (i := 2) (d := some 81) (rem := [_, _, _, _]) (out := [_, _, _, _]) rfl (by rfl) rfl Try.call7 (flip_d a1 a2 to f1 f2 fe hf.out) rfl rfl HM201.out [] rfl covS_nil rfl rfl ?_
      rintro W203 hm202 -
      have HM204 := Lib.hid hm202
      clear hm202
      simp only [Act.put, List.setIfInBounds_toArray, List.set_cons_succ, List.set_cons_zero]
      refine wpS_this [3, 4, 5] rfl (by kernel_rfl) (by simp only [pickL, nthL, List.cons_append, List.nil_append]; rfl) ?_
      repeat (go_big_quiet_step (fail))
      refine wpQuiet_nil ?_
      refine wpS_alloc (i := 6) (dd := 10) (z := .agg #[.int .i64 0, .int .i64 0]) (cs := #[.int .i64 0, .int .i64 0]) rfl (by rfl) rfl (by kernel_rfl) rfl HM204.out covS_nil rfl ?_
      rintro b207 W206 hm205 -
      have HM208 := Lib.hid hm205
      clear hm205
      simp only [Act.put, List.setIfInBounds_toArray, List.set_cons_succ, List.set_cons_zero]
      refine wpS_storeA (i := 7) (L2 := [_, _, _, _]) (cs' := [_, _]) rfl (by rfl) rfl rfl rfl (by kernel_rfl) (by rfl) HM208.out 0 rfl rfl rfl rfl covS_nil rfl ?_
      rintro W210 hm209 -
      have HM211 := Lib.hid hm209
      clear hm209
      refine wpS_this [8] rfl (by kernel_rfl) (by simp only [pickL, nthL, List.cons_append, List.nil_append]; rfl) ?_
      repeat (go_big_quiet_step (fail))
      refine wpQuiet_nil ?_
      refine wpS_nil ?_
      refine then_normal ?_
      refine wp_seq ?_
      by_cases hfe : fe = 0
      · have hok := flipE_ok (x := (a1, a2)) (to := to) (by rw [hf.out]; exact hfe)
        obtain ⟨ho1, ho2, ho3, ho4⟩ := hok
        have ho1 := hf.out.symm.trans ho1
        simp only [Prod.mk.injEq] at ho1
        obtain ⟨⟨hf1, hf2⟩, hf3⟩ := ho1
        subst f1
        subst f2
        subst fe
        have hbd := mayE_le ho2
        have hb0 : 0 ≤ a1 := hbd.1
        have hb1 : a1 < 1000000 := by have h1 : a1 ≤ 1000000 := hbd.2; have h2 : a1 ≠ 1000000 := ho4; omega
        have hmd := Lib.hid (mayE_next ho2 ho3 ho4)
        have hjd : Hid (joinE (a1, a2) (a1 + 1, to) = (a1 + 1, to)) := Lib.hid (if_pos (by rw [cmpE_next (a1, a2) to]; decide))
        clear ho2 ho3 ho4 hbd
        try clear hf3 hfe
        refine wp_region_M (fun k => k ∈ ([b3, b7, b11, b18, b207] : List Nat)) [(0, 1), (1, 1), (2, 1), (3, 1), (4, 1), (5, 3), (6, 1), (7, 1), (8, 1), (9, 1), (10, 1), (11, 1), (12, 1), (13, 1), (14, 1), (15, 1), (16, 1), (17, 1), (18, 1), (19, 1), (20, 1), (21, 1), (22, 1), (23, 1), (25, 2), (24, 3), (26, 1), (27, 1), (28, 1), (29, 1), (30, 3), (31, 1), (32, 1), (33, 1), (34, 3), (35, 1), (36, 1)] (by kernel_rfl) (by kernel_rfl) HM211.out ?_
        intro W212 hm213
        have HM214 := Lib.hid hm213
        clear hm213
        have Cb10 := Mem.cell HM214.out 0 rfl
        have Cb4 := Mem.cell HM214.out 4 rfl
        refine wpS_this [0, 1, 2, 3, 4] rfl (by kernel_rfl) (by simp only [pickL, nthL, List.cons_append, List.nil_append]; rfl) ?_
        repeat (go_big_quiet_step (fail))
        refine wpQuiet_nil ?_
        clear Cb10 Cb4
        refine wpS_does2 (i := 5) (d := some 89) (rem := [_, _, _, _, _]) (out := [_, _, _, _, _]) rfl (by rfl) rfl Try.call11 (compare_d (a1 + 1) to a1 a2) rfl rfl HM214.out [] rfl (covS_box 4 rfl (covS_box 3 rfl (covS_box 2 rfl (covS_box 1 rfl (covS_box 0 rfl covS_nil))))) rfl rfl ?_
        rintro W216 hm215 hg217
        rw [cmpE_next (a1, a2) to]
        have HM218 := Lib.hid hm215
        clear hm215
        simp only [Act.put, List.setIfInBounds_toArray, List.set_cons_succ, List.set_cons_zero]
        have Cb10 := Mem.cell HM218.out 0 rfl
        have Cb4 := Mem.cell HM218.out 4 rfl
        refine wpS_this [6, 7, 8, 9, 10, 11, 12, 13, 14, 15, 16, 17, 18, 19, 20, 21, 22, 23] rfl (by kernel_rfl) (by simp only [pickL, nthL, List.cons_append, List.nil_append]; rfl) ?_
        repeat (go_big_quiet_step (fail))
        refine wpQuiet_nil ?_
        clear Cb10 Cb4
        have Cb10 := Mem.cell HM218.out 0 rfl
        refine wpS_stay [25] rfl (by kernel_rfl) (by simp only [pickL, nthL, List.cons_append, List.nil_append]; rfl) ?_
        repeat (go_big_quiet_step (fail))
        refine wpQuiet_nil ?_
        clear Cb10
        refine wpS_does2 (i := 24) (d := some 108) (rem := [_, _, _, _, _]) (out := [_, _, _, _, _]) rfl (by rfl) rfl Try.call13 (join_d a1 a2 (a1 + 1) to (a1 + 1) to hjd.out) rfl rfl HM218.out [] rfl (covS_box 4 rfl (covS_box 3 rfl (covS_box 2 rfl (covS_box 1 rfl (covS_box 0 rfl covS_nil))))) rfl rfl ?_
        rintro W220 hm219 hg221
        have HM222 := Lib.hid hm219
        clear hm219
        simp only [Act.put, List.setIfInBounds_toArray, List.set_cons_succ, List.set_cons_zero]
        refine wpS_read (i := 26) (d := some 110) rfl (by rfl) (run_eqEb (p := (a1 + 1, to)) (q := (a1 + 1, to)) (decide_eq_true rfl) rfl rfl rfl) rfl ?_
        simp only [Act.put, List.setIfInBounds_toArray, List.set_cons_succ, List.set_cons_zero]
        have Cb10 := Mem.cell HM222.out 0 rfl
        refine wpS_this [27, 28, 29] rfl (by kernel_rfl) (by simp only [pickL, nthL, List.cons_append, List.nil_append]; rfl) ?_
        repeat (go_big_quiet_step (fail))
        refine wpQuiet_nil ?_
        clear Cb10
        refine wpS_does1 (i := 30) (d := some 114) (rem := [_, _, _, _, _]) (out := [_, _, _, _, _]) rfl (by rfl) rfl Try.call9 (may_d (a1 + 1) to) rfl HM222.out [] rfl (covS_box 4 rfl (covS_box 3 rfl (covS_box 2 rfl (covS_box 1 rfl (covS_box 0 rfl covS_nil))))) rfl rfl ?_
        rintro W224 hm223 hg225
        rw [hmd.out]
        have HM226 := Lib.hid hm223
        clear hm223
        simp only [Act.put, List.setIfInBounds_toArray, List.set_cons_succ, List.set_cons_zero]
        refine wpS_this [31, 32, 33] rfl (by kernel_rfl) (by simp only [pickL, nthL, List.cons_append, List.nil_append]; rfl) ?_
        repeat (go_big_quiet_step (fail))
        refine wpQuiet_nil ?_
        refine wpS_does0 (i := 34) (d := some 118) (rem := [_, _, _, _, _]) (out := [_, _, _, _, _]) rfl (by rfl) rfl Try.call15 (awake_d)  HM226.out [] rfl (covS_box 4 rfl (covS_box 3 rfl (covS_box 2 rfl (covS_box 1 rfl (covS_box 0 rfl covS_nil))))) rfl rfl ?_
        rintro W228 hm227 hg229
        have HM230 := Lib.hid hm227
        clear hm227
        simp only [Act.put, List.setIfInBounds_toArray, List.set_cons_succ, List.set_cons_zero]
        refine wpS_this [35, 36] rfl (by kernel_rfl) (by simp only [pickL, nthL, List.cons_append, List.nil_append]; rfl) ?_
        repeat (go_big_quiet_step (fail))
        refine wpQuiet_nil ?_
        refine wpS_nil ?_
        refine then_normal ?_
        refine wp_ret ?_
        refine bodyPost_ret (results_tmp rfl _ _ _) rfl ?_
        exact does_ret (Mem.only (M := []) HM230.out [] rfl) rfl rfl
      · have gfe : (fe != 0) = true := bne_iff_ne.2 hfe
        replace hfe := Lib.hid hfe
        refine wp_region_M (fun k => k ∈ ([b3, b7, b11, b18, b207] : List Nat)) [(0, 1), (1, 1), (2, 1), (3, 1), (4, 1), (5, 3), (6, 1), (7, 1), (8, 1), (9, 1), (10, 1), (11, 1), (12, 1), (13, 1), (14, 1), (15, 1), (16, 1), (17, 1), (18, 1), (19, 1), (20, 1), (21, 1), (22, 1), (23, 1), (25, 2), (24, 3), (26, 1), (27, 1), (28, 1), (29, 1), (30, 3), (31, 1), (32, 1), (33, 1), (34, 3), (35, 1), (36, 1)] (by kernel_rfl) (by kernel_rfl) HM211.out ?_
        intro W231 hm232
        have HM233 := Lib.hid hm232
        clear hm232
        have Cb10 := Mem.cell HM233.out 0 rfl
        have Cb4 := Mem.cell HM233.out 4 rfl
        refine wpS_this [0, 1, 2, 3, 4] rfl (by kernel_rfl) (by simp only [pickL, nthL, List.cons_append, List.nil_append]; rfl) ?_
        repeat (go_big_quiet_step (fail))
        refine wpQuiet_nil ?_
        clear Cb10 Cb4
        refine wpS_skip (i := 5) (d := some 89) rfl (by rfl) rfl ?_
        simp only [Act.put, List.setIfInBounds_toArray, List.set_cons_succ, List.set_cons_zero]
        have Cb10 := Mem.cell HM233.out 0 rfl
        have Cb4 := Mem.cell HM233.out 4 rfl
        refine wpS_this [6, 7, 8, 9, 10, 11, 12, 13, 14, 15, 16, 17, 18, 19, 20, 21, 22, 23] rfl (by kernel_rfl) (by simp only [pickL, nthL, List.cons_append, List.nil_append]; rfl) ?_
        repeat (go_big_quiet_step (fail))
        refine wpQuiet_nil ?_
        clear Cb10 Cb4
        have Cb10 := Mem.cell HM233.out 0 rfl
        refine wpS_stay [25] rfl (by kernel_rfl) (by simp only [pickL, nthL, List.cons_append, List.nil_append]; rfl) ?_
        repeat (go_big_quiet_step (fail))
        refine wpQuiet_nil ?_
        clear Cb10
        refine wpS_skip (i := 24) (d := some 108) rfl (by rfl) rfl ?_
        simp only [Act.put, List.setIfInBounds_toArray, List.set_cons_succ, List.set_cons_zero]
        refine wpS_skip (i := 26) (d := some 110) rfl (by rfl) rfl ?_
        simp only [Act.put, List.setIfInBounds_toArray, List.set_cons_succ, List.set_cons_zero]
        have Cb10 := Mem.cell HM233.out 0 rfl
        refine wpS_this [27, 28, 29] rfl (by kernel_rfl) (by simp only [pickL, nthL, List.cons_append, List.nil_append]; rfl) ?_
        repeat (go_big_quiet_step (fail))
        refine wpQuiet_nil ?_
        clear Cb10
        refine wpS_skip (i := 30) (d := some 114) rfl (by rfl) rfl ?_
        simp only [Act.put, List.setIfInBounds_toArray, List.set_cons_succ, List.set_cons_zero]
        refine wpS_this [31, 32, 33] rfl (by kernel_rfl) (by simp only [pickL, nthL, List.cons_append, List.nil_append]; rfl) ?_
        repeat (go_big_quiet_step (fail))
        refine wpQuiet_nil ?_
        refine wpS_does0 (i := 34) (d := some 118) (rem := [_, _, _, _, _]) (out := [_, _, _, _, _]) rfl (by rfl) rfl Try.call15 (awake_d)  HM233.out [] rfl (covS_box 4 rfl (covS_box 3 rfl (covS_box 2 rfl (covS_box 1 rfl (covS_box 0 rfl covS_nil))))) rfl rfl ?_
        rintro W235 hm234 hg236
        have HM237 := Lib.hid hm234
        clear hm234
        simp only [Act.put, List.setIfInBounds_toArray, List.set_cons_succ, List.set_cons_zero]
        refine wpS_this [35, 36] rfl (by kernel_rfl) (by simp only [pickL, nthL, List.cons_append, List.nil_append]; rfl) ?_
        repeat (go_big_quiet_step (fail))
        refine wpQuiet_nil ?_
        refine wpS_nil ?_
        refine then_normal ?_
        refine wp_ret ?_
        refine bodyPost_ret (results_tmp rfl _ _ _) rfl ?_
        exact does_ret (Mem.only (M := []) HM237.out [] rfl) rfl rfl
    · have gab : decide (((a1, a2) : En) = (b1, b2)) = false := decide_eq_false hab
      have gc : (c == 0) = false := beq_eq_false_iff_ne.2 (fun h => hab ((cmpE_zero _ _).1 (hc.out.trans h)))
      replace hab := Lib.hid hab
      refine wp_region_M (fun k => k ∈ ([b3, b7, b11, b18] : List Nat)) [(0, 1), (1, 1), (3, 2), (4, 2), (2, 3), (5, 3), (6, 1), (7, 1), (8, 1), (9, 1), (10, 1), (13, 2), (14, 2), (15, 0), (11, 3), (12, 1), (16, 1), (17, 1)] (by kernel_rfl) (by kernel_rfl) HM186.out ?_
      intro W238 hm239
      have HM240 := Lib.hid hm239
      clear hm239
      have Cb4 := Mem.cell HM240.out 3 rfl
      have Cb5 := Mem.cell HM240.out 2 rfl
      refine wpS_this [0, 1] rfl (by kernel_rfl) (by simp only [pickL, nthL, List.cons_append, List.nil_append]; rfl) ?_
      repeat (go_big_quiet_step (fail))
      refine wpQuiet_nil ?_
      clear Cb4 Cb5
      have Cb5 := Mem.cell HM240.out 2 rfl
      have Cb4 := Mem.cell HM240.out 3 rfl
      refine wpS_stay [3, 4] rfl (by kernel_rfl) (by simp only [pickL, nthL, List.cons_append, List.nil_append]; rfl) ?_
      repeat (go_big_quiet_step (fail))
      refine wpQuiet_nil ?_
      clear Cb5 Cb4
      refine wpS_does2 (i := 2) (d := some 62) (rem := [_, _, _, _]) (out := [_, _, _, _]) rfl (by rfl) rfl Try.call11 (compare_d a1 a2 b1 b2) rfl rfl HM240.out [] rfl (covS_box 3 rfl (covS_box 2 rfl (covS_box 1 rfl (covS_box 0 rfl covS_nil)))) rfl rfl ?_
      rintro W242 hm241 hg243
      rw [hc.out]
      have HM244 := Lib.hid hm241
      clear hm241
      simp only [Act.put, List.setIfInBounds_toArray, List.set_cons_succ, List.set_cons_zero]
      refine wpS_does2 (i := 5) (d := some 65) (rem := [_, _, _, _]) (out := [_, _, _, _]) rfl (by rfl) rfl Try.call11 (compare_d b1 b2 a1 a2) rfl rfl HM244.out [] rfl (covS_box 3 rfl (covS_box 2 rfl (covS_box 1 rfl (covS_box 0 rfl covS_nil)))) rfl rfl ?_
      rintro W246 hm245 hg247
      rw [hd.out]
      have HM248 := Lib.hid hm245
      clear hm245
      simp only [Act.put, List.setIfInBounds_toArray, List.set_cons_succ, List.set_cons_zero]
      have Cb4 := Mem.cell HM248.out 3 rfl
      have Cb5 := Mem.cell HM248.out 2 rfl
      refine wpS_this [6, 7, 8, 9, 10] rfl (by kernel_rfl) (by simp only [pickL, nthL, List.cons_append, List.nil_append]; rfl) ?_
      repeat (go_big_quiet_step (fail))
      refine wpQuiet_nil ?_
      clear Cb4 Cb5
      have Cb4 := Mem.cell HM248.out 3 rfl
      have Cb5 := Mem.cell HM248.out 2 rfl
      refine wpS_stay [13, 14] rfl (by kernel_rfl) (by simp only [pickL, nthL, List.cons_append, List.nil_append]; rfl) ?_
      repeat (go_big_quiet_step (fail))
      refine wpQuiet_nil ?_
      clear Cb4 Cb5
      refine wpS_read0 (i := 15) (d := some 75) rfl (by rfl) (fun _ => run_eqEb (p := (a1, a2)) (q := (b1, b2)) gab rfl rfl rfl) rfl ?_
      simp only [Act.put, List.setIfInBounds_toArray, List.set_cons_succ, List.set_cons_zero]
      refine wpS_does2 (i := 11) (d := some 71) (rem := [_, _, _, _]) (out := [_, _, _, _]) rfl (by rfl) rfl Try.call11 (compare_d a1 a2 b1 b2) rfl rfl HM248.out [] rfl (covS_box 3 rfl (covS_box 2 rfl (covS_box 1 rfl (covS_box 0 rfl covS_nil)))) rfl rfl ?_
      rintro W250 hm249 hg251
      rw [hc.out]
      have HM252 := Lib.hid hm249
      clear hm249
      simp only [Act.put, List.setIfInBounds_toArray, List.set_cons_succ, List.set_cons_zero]
      refine wpS_this [12, 16, 17] rfl (by kernel_rfl) (by simp only [pickL, nthL, List.cons_append, List.nil_append]; rfl) ?_
      repeat (go_big_quiet_step (fail))
      refine wpQuiet_nil ?_
      refine wpS_nil ?_
      refine then_normal ?_
      refine wp_cond_false rfl ?_
      refine wp_skip ?_
      refine then_normal ?_
      refine wp_seq ?_
      refine wp_region_N [(0, 1), (1, 1), (2, 3), (3, 1), (4, 1), (5, 1), (6, 3), (7, 3), (8, 1)] (by kernel_rfl) ?_
      have Cb4 := Mem.cell HM252.out 3 rfl
      refine wpS_this [0, 1] rfl (by kernel_rfl) (by simp only [pickL, nthL, List.cons_append, List.nil_append]; rfl) ?_
      repeat (go_big_quiet_step (fail))
      refine wpQuiet_nil ?_
      clear Cb4
      refine wpS_does2 (i := 2) (d := some 81) (rem := [_, _, _, _]) (out := [_, _, _, _]) rfl (by rfl) rfl Try.call7 (flip_d a1 a2 to f1 f2 fe hf.out) rfl rfl HM252.out [] rfl covS_nil rfl rfl ?_
      rintro W254 hm253 -
      have HM255 := Lib.hid hm253
      clear hm253
      simp only [Act.put, List.setIfInBounds_toArray, List.set_cons_succ, List.set_cons_zero]
      refine wpS_this [3, 4, 5] rfl (by kernel_rfl) (by simp only [pickL, nthL, List.cons_append, List.nil_append]; rfl) ?_
      repeat (go_big_quiet_step (fail))
      refine wpQuiet_nil ?_
      refine wpS_alloc (i := 6) (dd := 10) (z := .agg #[.int .i64 0, .int .i64 0]) (cs := #[.int .i64 0, .int .i64 0]) rfl (by rfl) rfl (by kernel_rfl) rfl HM255.out covS_nil rfl ?_
      rintro b258 W257 hm256 -
      have HM259 := Lib.hid hm256
      clear hm256
      simp only [Act.put, List.setIfInBounds_toArray, List.set_cons_succ, List.set_cons_zero]
      refine wpS_storeA (i := 7) (L2 := [_, _, _, _]) (cs' := [_, _]) rfl (by rfl) rfl rfl rfl (by kernel_rfl) (by rfl) HM259.out 0 rfl rfl rfl rfl covS_nil rfl ?_
      rintro W261 hm260 -
      have HM262 := Lib.hid hm260
      clear hm260
      refine wpS_this [8] rfl (by kernel_rfl) (by simp only [pickL, nthL, List.cons_append, List.nil_append]; rfl) ?_
      repeat (go_big_quiet_step (fail))
      refine wpQuiet_nil ?_
      refine wpS_nil ?_
      refine then_normal ?_
      refine wp_seq ?_
      by_cases hfe : fe = 0
      · have hok := flipE_ok (x := (a1, a2)) (to := to) (by rw [hf.out]; exact hfe)
        obtain ⟨ho1, ho2, ho3, ho4⟩ := hok
        have ho1 := hf.out.symm.trans ho1
        simp only [Prod.mk.injEq] at ho1
        obtain ⟨⟨hf1, hf2⟩, hf3⟩ := ho1
        subst f1
        subst f2
        subst fe
        have hbd := mayE_le ho2
        have hb0 : 0 ≤ a1 := hbd.1
        have hb1 : a1 < 1000000 := by have h1 : a1 ≤ 1000000 := hbd.2; have h2 : a1 ≠ 1000000 := ho4; omega
        have hmd := Lib.hid (mayE_next ho2 ho3 ho4)
        have hjd : Hid (joinE (a1, a2) (a1 + 1, to) = (a1 + 1, to)) := Lib.hid (if_pos (by rw [cmpE_next (a1, a2) to]; decide))
        clear ho2 ho3 ho4 hbd
        try clear hf3 hfe
        refine wp_region_M (fun k => k ∈ ([b3, b7, b11, b18, b258] : List Nat)) [(0, 1), (1, 1), (2, 1), (3, 1), (4, 1), (5, 3), (6, 1), (7, 1), (8, 1), (9, 1), (10, 1), (11, 1), (12, 1), (13, 1), (14, 1), (15, 1), (16, 1), (17, 1), (18, 1), (19, 1), (20, 1), (21, 1), (22, 1), (23, 1), (25, 2), (24, 3), (26, 1), (27, 1), (28, 1), (29, 1), (30, 3), (31, 1), (32, 1), (33, 1), (34, 3), (35, 1), (36, 1)] (by kernel_rfl) (by kernel_rfl) HM262.out ?_
        intro W263 hm264
        have HM265 := Lib.hid hm264
        clear hm264
        have Cb10 := Mem.cell HM265.out 0 rfl
        have Cb4 := Mem.cell HM265.out 4 rfl
        refine wpS_this [0, 1, 2, 3, 4] rfl (by kernel_rfl) (by simp only [pickL, nthL, List.cons_append, List.nil_append]; rfl) ?_
        repeat (go_big_quiet_step (fail))
        refine wpQuiet_nil ?_
        clear Cb10 Cb4
        refine wpS_does2 (i := 5) (d := some 89) (rem := [_, _, _, _, _]) (out := [_, _, _, _, _]) rfl (by rfl) rfl Try.call11 (compare_d (a1 + 1) to a1 a2) rfl rfl HM265.out [] rfl (covS_box 4 rfl (covS_box 3 rfl (covS_box 2 rfl (covS_box 1 rfl (covS_box 0 rfl covS_nil))))) rfl rfl ?_
        rintro W267 hm266 hg268
        rw [cmpE_next (a1, a2) to]
        have HM269 := Lib.hid hm266
        clear hm266
        simp only [Act.put, List.setIfInBounds_toArray, List.set_cons_succ, List.set_cons_zero]
        have Cb10 := Mem.cell HM269.out 0 rfl
        have Cb4 := Mem.cell HM269.out 4 rfl
        refine wpS_this [6, 7, 8, 9, 10, 11, 12, 13, 14, 15, 16, 17, 18, 19, 20, 21, 22, 23] rfl (by kernel_rfl) (by simp only [pickL, nthL, List.cons_append, List.nil_append]; rfl) ?_
        repeat (go_big_quiet_step (fail))
        refine wpQuiet_nil ?_
        clear Cb10 Cb4
        have Cb10 := Mem.cell HM269.out 0 rfl
        refine wpS_stay [25] rfl (by kernel_rfl) (by simp only [pickL, nthL, List.cons_append, List.nil_append]; rfl) ?_
        repeat (go_big_quiet_step (fail))
        refine wpQuiet_nil ?_
        clear Cb10
        refine wpS_does2 (i := 24) (d := some 108) (rem := [_, _, _, _, _]) (out := [_, _, _, _, _]) rfl (by rfl) rfl Try.call13 (join_d a1 a2 (a1 + 1) to (a1 + 1) to hjd.out) rfl rfl HM269.out [] rfl (covS_box 4 rfl (covS_box 3 rfl (covS_box 2 rfl (covS_box 1 rfl (covS_box 0 rfl covS_nil))))) rfl rfl ?_
        rintro W271 hm270 hg272
        have HM273 := Lib.hid hm270
        clear hm270
        simp only [Act.put, List.setIfInBounds_toArray, List.set_cons_succ, List.set_cons_zero]
        refine wpS_read (i := 26) (d := some 110) rfl (by rfl) (run_eqEb (p := (a1 + 1, to)) (q := (a1 + 1, to)) (decide_eq_true rfl) rfl rfl rfl) rfl ?_
        simp only [Act.put, List.setIfInBounds_toArray, List.set_cons_succ, List.set_cons_zero]
        have Cb10 := Mem.cell HM273.out 0 rfl
        refine wpS_this [27, 28, 29] rfl (by kernel_rfl) (by simp only [pickL, nthL, List.cons_append, List.nil_append]; rfl) ?_
        repeat (go_big_quiet_step (fail))
        refine wpQuiet_nil ?_
        clear Cb10
        refine wpS_does1 (i := 30) (d := some 114) (rem := [_, _, _, _, _]) (out := [_, _, _, _, _]) rfl (by rfl) rfl Try.call9 (may_d (a1 + 1) to) rfl HM273.out [] rfl (covS_box 4 rfl (covS_box 3 rfl (covS_box 2 rfl (covS_box 1 rfl (covS_box 0 rfl covS_nil))))) rfl rfl ?_
        rintro W275 hm274 hg276
        rw [hmd.out]
        have HM277 := Lib.hid hm274
        clear hm274
        simp only [Act.put, List.setIfInBounds_toArray, List.set_cons_succ, List.set_cons_zero]
        refine wpS_this [31, 32, 33] rfl (by kernel_rfl) (by simp only [pickL, nthL, List.cons_append, List.nil_append]; rfl) ?_
        repeat (go_big_quiet_step (fail))
        refine wpQuiet_nil ?_
        refine wpS_does0 (i := 34) (d := some 118) (rem := [_, _, _, _, _]) (out := [_, _, _, _, _]) rfl (by rfl) rfl Try.call15 (awake_d)  HM277.out [] rfl (covS_box 4 rfl (covS_box 3 rfl (covS_box 2 rfl (covS_box 1 rfl (covS_box 0 rfl covS_nil))))) rfl rfl ?_
        rintro W279 hm278 hg280
        have HM281 := Lib.hid hm278
        clear hm278
        simp only [Act.put, List.setIfInBounds_toArray, List.set_cons_succ, List.set_cons_zero]
        refine wpS_this [35, 36] rfl (by kernel_rfl) (by simp only [pickL, nthL, List.cons_append, List.nil_append]; rfl) ?_
        repeat (go_big_quiet_step (fail))
        refine wpQuiet_nil ?_
        refine wpS_nil ?_
        refine then_normal ?_
        refine wp_ret ?_
        refine bodyPost_ret (results_tmp rfl _ _ _) rfl ?_
        exact does_ret (Mem.only (M := []) HM281.out [] rfl) rfl rfl
      · have gfe : (fe != 0) = true := bne_iff_ne.2 hfe
        replace hfe := Lib.hid hfe
        refine wp_region_M (fun k => k ∈ ([b3, b7, b11, b18, b258] : List Nat)) [(0, 1), (1, 1), (2, 1), (3, 1), (4, 1), (5, 3), (6, 1), (7, 1), (8, 1), (9, 1), (10, 1), (11, 1), (12, 1), (13, 1), (14, 1), (15, 1), (16, 1), (17, 1), (18, 1), (19, 1), (20, 1), (21, 1), (22, 1), (23, 1), (25, 2), (24, 3), (26, 1), (27, 1), (28, 1), (29, 1), (30, 3), (31, 1), (32, 1), (33, 1), (34, 3), (35, 1), (36, 1)] (by kernel_rfl) (by kernel_rfl) HM262.out ?_
        intro W282 hm283
        have HM284 := Lib.hid hm283
        clear hm283
        have Cb10 := Mem.cell HM284.out 0 rfl
        have Cb4 := Mem.cell HM284.out 4 rfl
        refine wpS_this [0, 1, 2, 3, 4] rfl (by kernel_rfl) (by simp only [pickL, nthL, List.cons_append, List.nil_append]; rfl) ?_
        repeat (go_big_quiet_step (fail))
        refine wpQuiet_nil ?_
        clear Cb10 Cb4
        refine wpS_skip (i := 5) (d := some 89) rfl (by rfl) rfl ?_
        simp only [Act.put, List.setIfInBounds_toArray, List.set_cons_succ, List.set_cons_zero]
        have Cb10 := Mem.cell HM284.out 0 rfl
        have Cb4 := Mem.cell HM284.out 4 rfl
        refine wpS_this [6, 7, 8, 9, 10, 11, 12, 13, 14, 15, 16, 17, 18, 19, 20, 21, 22, 23] rfl (by kernel_rfl) (by simp only [pickL, nthL, List.cons_append, List.nil_append]; rfl) ?_
        repeat (go_big_quiet_step (fail))
        refine wpQuiet_nil ?_
        clear Cb10 Cb4
        have Cb10 := Mem.cell HM284.out 0 rfl
        refine wpS_stay [25] rfl (by kernel_rfl) (by simp only [pickL, nthL, List.cons_append, List.nil_append]; rfl) ?_
        repeat (go_big_quiet_step (fail))
        refine wpQuiet_nil ?_
        clear Cb10
        refine wpS_skip (i := 24) (d := some 108) rfl (by rfl) rfl ?_
        simp only [Act.put, List.setIfInBounds_toArray, List.set_cons_succ, List.set_cons_zero]
        refine wpS_skip (i := 26) (d := some 110) rfl (by rfl) rfl ?_
        simp only [Act.put, List.setIfInBounds_toArray, List.set_cons_succ, List.set_cons_zero]
        have Cb10 := Mem.cell HM284.out 0 rfl
        refine wpS_this [27, 28, 29] rfl (by kernel_rfl) (by simp only [pickL, nthL, List.cons_append, List.nil_append]; rfl) ?_
        repeat (go_big_quiet_step (fail))
        refine wpQuiet_nil ?_
        clear Cb10
        refine wpS_skip (i := 30) (d := some 114) rfl (by rfl) rfl ?_
        simp only [Act.put, List.setIfInBounds_toArray, List.set_cons_succ, List.set_cons_zero]
        refine wpS_this [31, 32, 33] rfl (by kernel_rfl) (by simp only [pickL, nthL, List.cons_append, List.nil_append]; rfl) ?_
        repeat (go_big_quiet_step (fail))
        refine wpQuiet_nil ?_
        refine wpS_does0 (i := 34) (d := some 118) (rem := [_, _, _, _, _]) (out := [_, _, _, _, _]) rfl (by rfl) rfl Try.call15 (awake_d)  HM284.out [] rfl (covS_box 4 rfl (covS_box 3 rfl (covS_box 2 rfl (covS_box 1 rfl (covS_box 0 rfl covS_nil))))) rfl rfl ?_
        rintro W286 hm285 hg287
        have HM288 := Lib.hid hm285
        clear hm285
        simp only [Act.put, List.setIfInBounds_toArray, List.set_cons_succ, List.set_cons_zero]
        refine wpS_this [35, 36] rfl (by kernel_rfl) (by simp only [pickL, nthL, List.cons_append, List.nil_append]; rfl) ?_
        repeat (go_big_quiet_step (fail))
        refine wpQuiet_nil ?_
        refine wpS_nil ?_
        refine then_normal ?_
        refine wp_ret ?_
        refine bodyPost_ret (results_tmp rfl _ _ _) rfl ?_
        exact does_ret (Mem.only (M := []) HM288.out [] rfl) rfl rfl

end Go.Proofs.Ytonlnhcjfdeipaa
