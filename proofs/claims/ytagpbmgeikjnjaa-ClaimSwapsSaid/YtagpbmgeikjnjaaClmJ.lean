/- ClaimForms: its walk. -/
import Derived.Test.YtagpbmgeikjnjaaClmI
namespace Go.Proofs.Ytagpbmgeikjnjaa
open Go Go.RowKit Go.BigFrame

theorem same_t (R : At) (va vb : Value) (x : List Int) (hA : ∀ W H, R.p W H → RowAt elemI W va x) (hB : ∀ W H, R.p W H → RowAt elemI W vb x) (hxl : x.length ≤ 1000) : Does Try.prog 12 #[va, vb] [R] (.bool true) [R] := by
  have h := same_d R va vb x x hA hB hxl
  rwa [show decide (x = x) = true from decide_eq_true rfl] at h
theorem p_le (ms : List Int) : (peersOf ms (-1)).length ≤ 1000 := Nat.le_trans (peersOf_len8 _ _) (by decide)
theorem q_le (now ms : List Int) : (quotasOf now (peersOf ms (-1))).length ≤ 1000 := by
  unfold quotasOf
  rw [List.length_map]
  exact p_le ms
theorem a_len (now ms : List Int) : (assignOf now (peersOf ms (-1))).length ≤ 16 := by
  by_cases h : peersOf ms (-1) = []
  · rw [h, show assignOf now [] = [] from if_pos rfl]
    decide
  · rw [(assigned (now := now) (peersOf_ok ms (-1)) h).len]
    exact Nat.le_refl _
theorem a_le (now ms : List Int) : (assignOf now (peersOf ms (-1))).length ≤ 1000 := Nat.le_trans (a_len now ms) (by decide)
theorem rowS {v : Value} {xs : List SlV} : ∀ W H, (rowT elemS v xs).p W H → RowAt elemS W v xs := fun W H h => rowAt_src (rowT_reads W H h)
set_option maxHeartbeats 4000000 in
set_option maxRecDepth 100000 in
theorem forms_d (W0 : World) (vnow : Value) (vms : Value) (vot : Value) (now : List Int) (ms : List Int) (ot : List Int) (hnow : RowAt elemI W0 vnow now) (hms : RowAt elemI W0 vms ms) (hot : RowAt elemI W0 vot ot) : Does Try.prog 3 #[vnow, vms, vot] [oldT W0] (.bool true) [oldT W0] := by
  intro w H hp
  have HM0 := Lib.hid (mem_refl hp)
  clear hp
  obtain ⟨pnow, cnow, rfl⟩ := rd_form hnow
  obtain ⟨pms, cms, rfl⟩ := rd_form hms
  obtain ⟨pot, cot, rfl⟩ := rd_form hot
  go_enter Try.func3, Try.ntmps3
  refine wp_seq ?_
  refine wp_region_N [(0, 1)] (by kernel_rfl) ?_
  refine wpS_this [0] rfl (by kernel_rfl) (by simp only [pickL, nthL, List.cons_append, List.nil_append]; rfl) ?_
  repeat (go_big_quiet_step (fail))
  refine wpQuiet_nil ?_
  refine wpS_nil ?_
  refine then_normal ?_
  refine wp_seq ?_
  refine wp_seq ?_
  cases hfw : fewB [⟨pnow, now.length, cnow⟩, ⟨pms, ms.length, cms⟩, ⟨pot, ot.length, cot⟩]
  · skip
    refine wp_region_N [(0, 1), (1, 1), (2, 1), (3, 3), (4, 3), (5, 1)] (by kernel_rfl) ?_
    refine wpS_this [0, 1, 2] rfl (by kernel_rfl) (by simp only [pickL, nthL, List.cons_append, List.nil_append]; rfl) ?_
    repeat (go_big_quiet_step (fail))
    refine wpQuiet_nil ?_
    refine wpS_buildN elemS (i := 3) (dd := 10) (n := 3) (xs := [⟨pnow, now.length, cnow⟩, ⟨pms, ms.length, cms⟩, ⟨pot, ot.length, cot⟩]) (cs := #[.slice pnow now.length cnow, .slice pms ms.length cms, .slice pot ot.length cot]) rfl (by rfl) (fun _ => by kernel_rfl) rfl rfl HM0.out covS_nil rfl ?_
    rintro b3 W4 hm5 -
    have HM6 := Lib.hid hm5
    clear hm5
    simp only [Act.put, List.setIfInBounds_toArray, List.set_cons_succ, List.set_cons_zero]
    refine wpS_does1 (i := 4) (d := some 11) (rem := [_]) (out := [_, _]) rfl (by rfl) rfl Try.call10 (few_d (rowT elemS _ _) _ [⟨pnow, now.length, cnow⟩, ⟨pms, ms.length, cms⟩, ⟨pot, ot.length, cot⟩] rowS (by simp)) rfl HM6.out [0] rfl covS_nil rfl rfl ?_
    rintro W8 hm7 -
    rw [hfw]
    have HM9 := Lib.hid hm7
    clear hm7
    simp only [Act.put, List.setIfInBounds_toArray, List.set_cons_succ, List.set_cons_zero]
    refine wpS_this [5] rfl (by kernel_rfl) (by simp only [pickL, nthL, List.cons_append, List.nil_append]; rfl) ?_
    repeat (go_big_quiet_step (fail))
    refine wpQuiet_nil ?_
    refine wpS_nil ?_
    refine then_normal ?_
    refine wp_cond_true rfl ?_
    refine wp_seq ?_
    refine wp_region_N [(0, 3), (1, 1)] (by kernel_rfl) ?_
    refine wpS_does0 (i := 0) (d := some 13) (rem := [_, _]) (out := [_, _]) rfl (by rfl) rfl Try.call11 (awake_d)  HM9.out [] rfl covS_nil rfl rfl ?_
    rintro W11 hm10 -
    have HM12 := Lib.hid hm10
    clear hm10
    simp only [Act.put, List.setIfInBounds_toArray, List.set_cons_succ, List.set_cons_zero]
    refine wpS_this [1] rfl (by kernel_rfl) (by simp only [pickL, nthL, List.cons_append, List.nil_append]; rfl) ?_
    repeat (go_big_quiet_step (fail))
    refine wpQuiet_nil ?_
    refine wpS_nil ?_
    refine then_normal ?_
    refine wp_ret ?_
    refine then_ret ?_
    refine bodyPost_ret (results_tmp rfl _ _ _) rfl ?_
    exact does_ret (Mem.only (M := [_]) HM12.out [1] rfl) rfl rfl
  · have hbb : now.length ≤ 100 ∧ ms.length ≤ 100 ∧ ot.length ≤ 100 := by simpa [fewB] using hfw
    obtain ⟨hbnow, hbms, hbot⟩ := hbb
    refine wp_region_N [(0, 1), (1, 1), (2, 1), (3, 3), (4, 3), (5, 1)] (by kernel_rfl) ?_
    refine wpS_this [0, 1, 2] rfl (by kernel_rfl) (by simp only [pickL, nthL, List.cons_append, List.nil_append]; rfl) ?_
    repeat (go_big_quiet_step (fail))
    refine wpQuiet_nil ?_
    refine wpS_buildN elemS (i := 3) (dd := 10) (n := 3) (xs := [⟨pnow, now.length, cnow⟩, ⟨pms, ms.length, cms⟩, ⟨pot, ot.length, cot⟩]) (cs := #[.slice pnow now.length cnow, .slice pms ms.length cms, .slice pot ot.length cot]) rfl (by rfl) (fun _ => by kernel_rfl) rfl rfl HM0.out covS_nil rfl ?_
    rintro b15 W16 hm17 -
    have HM18 := Lib.hid hm17
    clear hm17
    simp only [Act.put, List.setIfInBounds_toArray, List.set_cons_succ, List.set_cons_zero]
    refine wpS_does1 (i := 4) (d := some 11) (rem := [_]) (out := [_, _]) rfl (by rfl) rfl Try.call10 (few_d (rowT elemS _ _) _ [⟨pnow, now.length, cnow⟩, ⟨pms, ms.length, cms⟩, ⟨pot, ot.length, cot⟩] rowS (by simp)) rfl HM18.out [0] rfl covS_nil rfl rfl ?_
    rintro W20 hm19 -
    rw [hfw]
    have HM21 := Lib.hid hm19
    clear hm19
    simp only [Act.put, List.setIfInBounds_toArray, List.set_cons_succ, List.set_cons_zero]
    refine wpS_this [5] rfl (by kernel_rfl) (by simp only [pickL, nthL, List.cons_append, List.nil_append]; rfl) ?_
    repeat (go_big_quiet_step (fail))
    refine wpQuiet_nil ?_
    refine wpS_nil ?_
    refine then_normal ?_
    refine wp_cond_false rfl ?_
    refine wp_skip ?_
    refine then_normal ?_
    refine wp_seq ?_
    refine wp_region_N [(0, 1), (1, 3), (2, 1), (3, 3), (4, 3), (5, 1), (6, 1), (7, 1), (8, 3), (9, 1), (10, 1), (11, 3), (12, 3), (13, 1), (14, 1), (15, 1), (16, 1), (17, 3), (18, 1), (19, 1), (20, 3), (21, 3), (22, 1), (23, 1), (24, 1), (25, 1), (26, 3), (27, 1), (28, 1), (29, 3), (30, 1), (31, 1), (32, 1), (33, 3), (34, 1), (35, 1)] (by kernel_rfl) ?_
    refine wpS_this [0] rfl (by kernel_rfl) (by simp only [pickL, nthL, List.cons_append, List.nil_append]; rfl) ?_
    repeat (go_big_quiet_step (fail))
    refine wpQuiet_nil ?_
    refine wpS_doesU1 (i := 1) (d := some 15) (rem := [_]) rfl (by rfl) rfl Try.call13 (members_d (oldT W0) _ ms (rowOld hms) (by omega)) rfl HM21.out [1] rfl covS_nil (fun _ => rfl) rfl ?_
    rintro u24 W23 hm22 -
    have HM25 := Lib.hid hm22
    clear hm22
    simp only [Act.put, List.setIfInBounds_toArray, List.set_cons_succ, List.set_cons_zero]
    refine wpS_this [2] rfl (by kernel_rfl) (by simp only [pickL, nthL, List.cons_append, List.nil_append]; rfl) ?_
    repeat (go_big_quiet_step (fail))
    refine wpQuiet_nil ?_
    refine wpS_doesU2 (i := 3) (d := some 17) (rem := [_, _]) rfl (by rfl) rfl Try.call14 (rpeers_d (oldT W0) _ ms (-1) (rowOld hms) (by omega)) rfl rfl HM25.out [1] rfl covS_nil (fun _ => rfl) rfl ?_
    rintro u28 W27 hm26 -
    have HM29 := Lib.hid hm26
    clear hm26
    simp only [Act.put, List.setIfInBounds_toArray, List.set_cons_succ, List.set_cons_zero]
    refine wpS_does2 (i := 4) (d := some 18) (rem := [_, _]) (out := [_, _, _, _]) rfl (by rfl) rfl Try.call12 (Does.ofList (same_t (listT [_, _]) _ _ _ (rowL 0 rfl rowOwn) (rowL 1 rfl rowOwn) (p_le ms))) rfl rfl HM29.out [2, 0] rfl covS_nil rfl rfl ?_
    rintro W31 hm30 -
    have HM32 := Lib.hid hm30
    clear hm30
    simp only [Act.put, List.setIfInBounds_toArray, List.set_cons_succ, List.set_cons_zero]
    refine wpS_this [5, 6, 7] rfl (by kernel_rfl) (by simp only [pickL, nthL, List.cons_append, List.nil_append]; rfl) ?_
    repeat (go_big_quiet_step (fail))
    refine wpQuiet_nil ?_
    refine wpS_doesU2 (i := 8) (d := some 22) (rem := [_, _, _]) rfl (by rfl) rfl Try.call15 (quotas_d (oldT W0) _ _ now ms (rowOld hnow) (rowOld hms) (by omega)) rfl rfl HM32.out [2] rfl covS_nil (fun _ => rfl) rfl ?_
    rintro u35 W34 hm33 -
    have HM36 := Lib.hid hm33
    clear hm33
    simp only [Act.put, List.setIfInBounds_toArray, List.set_cons_succ, List.set_cons_zero]
    refine wpS_this [9, 10] rfl (by kernel_rfl) (by simp only [pickL, nthL, List.cons_append, List.nil_append]; rfl) ?_
    repeat (go_big_quiet_step (fail))
    refine wpQuiet_nil ?_
    refine wpS_doesU2 (i := 11) (d := some 25) (rem := [_, _, _, _]) rfl (by rfl) rfl Try.call16 (rquotas_d (oldT W0) _ _ now ms (rowOld hnow) (rowOld hms) (by omega)) rfl rfl HM36.out [1] rfl covS_nil (fun _ => rfl) rfl ?_
    rintro u39 W38 hm37 -
    have HM40 := Lib.hid hm37
    clear hm37
    simp only [Act.put, List.setIfInBounds_toArray, List.set_cons_succ, List.set_cons_zero]
    refine wpS_does2 (i := 12) (d := some 26) (rem := [_, _, _, _]) (out := [_, _, _, _, _, _]) rfl (by rfl) rfl Try.call12 (Does.ofList (same_t (listT [_, _]) _ _ _ (rowL 0 rfl rowOwn) (rowL 1 rfl rowOwn) (q_le now ms))) rfl rfl HM40.out [2, 0] rfl covS_nil rfl rfl ?_
    rintro W42 hm41 -
    have HM43 := Lib.hid hm41
    clear hm41
    simp only [Act.put, List.setIfInBounds_toArray, List.set_cons_succ, List.set_cons_zero]
    refine wpS_this [13, 14, 15, 16] rfl (by kernel_rfl) (by simp only [pickL, nthL, List.cons_append, List.nil_append]; rfl) ?_
    repeat (go_big_quiet_step (fail))
    refine wpQuiet_nil ?_
    refine wpS_doesU2 (i := 17) (d := some 31) (rem := [_, _, _, _, _]) rfl (by rfl) rfl Try.call17 (assign_d (oldT W0) _ _ now ms (rowOld hnow) (rowOld hms) (by omega)) rfl rfl HM43.out [2] rfl covS_nil (fun _ => rfl) rfl ?_
    rintro u46 W45 hm44 -
    have HM47 := Lib.hid hm44
    clear hm44
    simp only [Act.put, List.setIfInBounds_toArray, List.set_cons_succ, List.set_cons_zero]
    refine wpS_this [18, 19] rfl (by kernel_rfl) (by simp only [pickL, nthL, List.cons_append, List.nil_append]; rfl) ?_
    repeat (go_big_quiet_step (fail))
    refine wpQuiet_nil ?_
    refine wpS_doesU2 (i := 20) (d := some 34) (rem := [_, _, _, _, _, _]) rfl (by rfl) rfl Try.call18 (rassign_d (oldT W0) _ _ now ms (rowOld hnow) (rowOld hms) (by omega)) rfl rfl HM47.out [1] rfl covS_nil (fun _ => rfl) rfl ?_
    rintro u50 W49 hm48 -
    have HM51 := Lib.hid hm48
    clear hm48
    simp only [Act.put, List.setIfInBounds_toArray, List.set_cons_succ, List.set_cons_zero]
    refine wpS_does2 (i := 21) (d := some 35) (rem := [_, _, _, _, _, _]) (out := [_, _, _, _, _, _, _, _]) rfl (by rfl) rfl Try.call12 (Does.ofList (same_t (listT [_, _]) _ _ _ (rowL 0 rfl rdRow_reads) (rowL 1 rfl rowOwn) (a_le now ms))) rfl rfl HM51.out [2, 0] rfl covS_nil rfl rfl ?_
    rintro W53 hm52 -
    have HM54 := Lib.hid hm52
    clear hm52
    simp only [Act.put, List.setIfInBounds_toArray, List.set_cons_succ, List.set_cons_zero]
    refine wpS_this [22, 23, 24, 25] rfl (by kernel_rfl) (by simp only [pickL, nthL, List.cons_append, List.nil_append]; rfl) ?_
    repeat (go_big_quiet_step (fail))
    refine wpQuiet_nil ?_
    refine wpS_does2 (i := 26) (d := some 40) (rem := [_, _, _, _, _, _, _]) (out := [_, _, _, _, _, _, _, _]) rfl (by rfl) rfl Try.call19 (moves_d (oldT W0) _ _ now ot (rowOld hnow) (rowOld hot)) rfl rfl HM54.out [2] rfl covS_nil rfl rfl ?_
    rintro W56 hm55 -
    have HM57 := Lib.hid hm55
    clear hm55
    simp only [Act.put, List.setIfInBounds_toArray, List.set_cons_succ, List.set_cons_zero]
    refine wpS_this [27, 28] rfl (by kernel_rfl) (by simp only [pickL, nthL, List.cons_append, List.nil_append]; rfl) ?_
    repeat (go_big_quiet_step (fail))
    refine wpQuiet_nil ?_
    refine wpS_does2 (i := 29) (d := some 43) (rem := [_, _, _, _, _, _, _]) (out := [_, _, _, _, _, _, _, _]) rfl (by rfl) rfl Try.call20 (rmoves_d (oldT W0) _ _ now ot (rowOld hnow) (rowOld hot)) rfl rfl HM57.out [0] rfl covS_nil rfl rfl ?_
    rintro W59 hm58 -
    have HM60 := Lib.hid hm58
    clear hm58
    simp only [Act.put, List.setIfInBounds_toArray, List.set_cons_succ, List.set_cons_zero]
    refine wpS_this [30, 31, 32] rfl (by kernel_rfl) (by simp only [pickL, nthL, List.cons_append, List.nil_append]; rfl) ?_
    repeat (go_big_quiet_step (fail))
    refine wpQuiet_nil ?_
    refine wpS_does0 (i := 33) (d := some 47) (rem := [_, _, _, _, _, _, _, _]) (out := [_, _, _, _, _, _, _, _]) rfl (by rfl) rfl Try.call11 (awake_d)  HM60.out [] rfl covS_nil rfl rfl ?_
    rintro W62 hm61 -
    have HM63 := Lib.hid hm61
    clear hm61
    simp only [Act.put, List.setIfInBounds_toArray, List.set_cons_succ, List.set_cons_zero]
    refine wpS_this [34, 35] rfl (by kernel_rfl) (by simp only [pickL, nthL, List.cons_append, List.nil_append]; rfl) ?_
    repeat (go_big_quiet_step (fail))
    refine wpQuiet_nil ?_
    refine wpS_nil ?_
    refine then_normal ?_
    refine wp_ret ?_
    refine bodyPost_ret (results_tmp rfl _ _ _) rfl ?_
    exact does_ret (Mem.only (M := [_]) HM63.out [0] rfl) rfl rfl

end Go.Proofs.Ytagpbmgeikjnjaa
