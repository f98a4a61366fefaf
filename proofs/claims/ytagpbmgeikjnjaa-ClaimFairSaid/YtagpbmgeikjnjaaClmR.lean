/- ClaimSwaps: its walk. -/
import Derived.Test.YtagpbmgeikjnjaaClmO
namespace Go.Proofs.Ytagpbmgeikjnjaa
open Go Go.RowKit Go.BigFrame

theorem filter_take {B : List Int} (g : Int → Bool) {k : Nat} {m : Int} (h : B[k]? = some m) : (B.take (k + 1)).filter g = (B.take k).filter g ++ (if g m = true then [m] else []) := by
  rw [List.take_add_one, h, Option.toList_some, List.filter_append]
  congr 1
  by_cases hg : g m = true <;> simp [hg]
theorem swap_none {X Y A N : List Int} (hXY : ∀ x, x ∈ X → x ∉ Y) (hA : Assigned N X A) : ∀ p, p < 16 → atL A p ∉ Y := fun p hp => hXY _ (hA.each p _ (atL_some (by rw [hA.len]; exact hp)))
theorem nil_none {Y : List Int} (hok : MemOk Y) : ∀ p, p < 16 → atL [] p ∉ Y := fun p _ h => hok.ne _ h (atL_nil p)
set_option maxHeartbeats 4000000 in
set_option maxRecDepth 100000 in
theorem swaps_d (W0 : World) (vxa : Value) (vxb : Value) (xa : List Int) (xb : List Int) (hxa : RowAt elemI W0 vxa xa) (hxb : RowAt elemI W0 vxb xb) : Does Try.prog 9 #[vxa, vxb] [oldT W0] (.bool true) [oldT W0] := by
  intro w H hp
  have HM0 := Lib.hid (mem_refl hp)
  clear hp
  obtain ⟨pxa, cxa, rfl⟩ := rd_form hxa
  obtain ⟨pxb, cxb, rfl⟩ := rd_form hxb
  go_enter Try.func9, Try.ntmps9
  refine wp_seq ?_
  refine wp_region_N [(0, 1)] (by kernel_rfl) ?_
  refine wpS_this [0] rfl (by kernel_rfl) (by simp only [pickL, nthL, List.cons_append, List.nil_append]; rfl) ?_
  repeat (go_big_quiet_step (fail))
  refine wpQuiet_nil ?_
  refine wpS_nil ?_
  refine then_normal ?_
  refine wp_seq ?_
  refine wp_seq ?_
  cases hfw : fewB [⟨pxa, xa.length, cxa⟩, ⟨pxb, xb.length, cxb⟩]
  · skip
    refine wp_region_N [(0, 1), (1, 1), (2, 3), (3, 3), (4, 1)] (by kernel_rfl) ?_
    refine wpS_this [0, 1] rfl (by kernel_rfl) (by simp only [pickL, nthL, List.cons_append, List.nil_append]; rfl) ?_
    repeat (go_big_quiet_step (fail))
    refine wpQuiet_nil ?_
    refine wpS_buildN elemS (i := 2) (dd := 16) (n := 2) (xs := [⟨pxa, xa.length, cxa⟩, ⟨pxb, xb.length, cxb⟩]) (cs := #[.slice pxa xa.length cxa, .slice pxb xb.length cxb]) rfl (by rfl) (fun _ => by kernel_rfl) rfl rfl HM0.out covS_nil rfl ?_
    rintro b3 W4 hm5 -
    have HM6 := Lib.hid hm5
    clear hm5
    simp only [Act.put, List.setIfInBounds_toArray, List.set_cons_succ, List.set_cons_zero]
    refine wpS_does1 (i := 3) (d := some 17) (rem := [_]) (out := [_, _]) rfl (by rfl) rfl Try.call10 (few_d (rowT elemS _ _) _ [⟨pxa, xa.length, cxa⟩, ⟨pxb, xb.length, cxb⟩] rowS (by simp)) rfl HM6.out [0] rfl covS_nil rfl rfl ?_
    rintro W8 hm7 -
    rw [hfw]
    have HM9 := Lib.hid hm7
    clear hm7
    simp only [Act.put, List.setIfInBounds_toArray, List.set_cons_succ, List.set_cons_zero]
    refine wpS_this [4] rfl (by kernel_rfl) (by simp only [pickL, nthL, List.cons_append, List.nil_append]; rfl) ?_
    repeat (go_big_quiet_step (fail))
    refine wpQuiet_nil ?_
    refine wpS_nil ?_
    refine then_normal ?_
    refine wp_cond_true rfl ?_
    refine wp_seq ?_
    refine wp_region_N [(0, 3), (1, 1)] (by kernel_rfl) ?_
    refine wpS_does0 (i := 0) (d := some 19) (rem := [_, _]) (out := [_, _]) rfl (by rfl) rfl Try.call11 (awake_d)  HM9.out [] rfl covS_nil rfl rfl ?_
    rintro W11 hm10 -
    have HM12 := Lib.hid hm10
    clear hm10
    simp only [Act.put, List.setIfInBounds_toArray, List.set_cons_succ, List.set_cons_zero]
    refine wpS_this [1] rfl (by kernel_rfl) (by simp only [pickL, nthL, List.cons_append, List.nil_append]; rfl) ?_
    repeat (go_big_quiet_step (fail))
    refine wpQuiet_nil ?_
    refine wpS_nil ?_
    refine then_normal ?_
    refine wp_ret ?_
    refine then_ret ?_
    refine bodyPost_ret (results_tmp rfl _ _ _) rfl ?_
    exact does_ret (Mem.only (M := [_]) HM12.out [1] rfl) rfl rfl
  · have hbb : xa.length ≤ 100 ∧ xb.length ≤ 100 := by simpa [fewB] using hfw
    obtain ⟨hbxa, hbxb⟩ := hbb
    refine wp_region_N [(0, 1), (1, 1), (2, 3), (3, 3), (4, 1)] (by kernel_rfl) ?_
    refine wpS_this [0, 1] rfl (by kernel_rfl) (by simp only [pickL, nthL, List.cons_append, List.nil_append]; rfl) ?_
    repeat (go_big_quiet_step (fail))
    refine wpQuiet_nil ?_
    refine wpS_buildN elemS (i := 2) (dd := 16) (n := 2) (xs := [⟨pxa, xa.length, cxa⟩, ⟨pxb, xb.length, cxb⟩]) (cs := #[.slice pxa xa.length cxa, .slice pxb xb.length cxb]) rfl (by rfl) (fun _ => by kernel_rfl) rfl rfl HM0.out covS_nil rfl ?_
    rintro b15 W16 hm17 -
    have HM18 := Lib.hid hm17
    clear hm17
    simp only [Act.put, List.setIfInBounds_toArray, List.set_cons_succ, List.set_cons_zero]
    refine wpS_does1 (i := 3) (d := some 17) (rem := [_]) (out := [_, _]) rfl (by rfl) rfl Try.call10 (few_d (rowT elemS _ _) _ [⟨pxa, xa.length, cxa⟩, ⟨pxb, xb.length, cxb⟩] rowS (by simp)) rfl HM18.out [0] rfl covS_nil rfl rfl ?_
    rintro W20 hm19 -
    rw [hfw]
    have HM21 := Lib.hid hm19
    clear hm19
    simp only [Act.put, List.setIfInBounds_toArray, List.set_cons_succ, List.set_cons_zero]
    refine wpS_this [4] rfl (by kernel_rfl) (by simp only [pickL, nthL, List.cons_append, List.nil_append]; rfl) ?_
    repeat (go_big_quiet_step (fail))
    refine wpQuiet_nil ?_
    refine wpS_nil ?_
    refine then_normal ?_
    refine wp_cond_false rfl ?_
    refine wp_skip ?_
    refine then_normal ?_
    refine wp_seq ?_
    refine wp_region_N [(0, 1), (1, 3), (2, 1)] (by kernel_rfl) ?_
    refine wpS_this [0] rfl (by kernel_rfl) (by simp only [pickL, nthL, List.cons_append, List.nil_append]; rfl) ?_
    repeat (go_big_quiet_step (fail))
    refine wpQuiet_nil ?_
    refine wpS_doesU1 (i := 1) (d := some 21) (rem := [_]) rfl (by rfl) rfl Try.call13 (members_d (oldT W0) _ xa (rowOld hxa) (by omega)) rfl HM21.out [1] rfl covS_nil (fun _ => rfl) rfl ?_
    rintro u24 W23 hm22 -
    have haX := peersOf_asc xa
    obtain ⟨X, hXe'⟩ : ∃ x, peersOf xa (-1) = x := ⟨_, rfl⟩
    rw [hXe'] at hm22 haX
    obtain ⟨xp, xc, rfl⟩ := row_form (Mem.src hm22 0 rfl rowT_reads)
    have hX8 : X.length ≤ 8 := by rw [← hXe']; exact peersOf_len8 _ _
    have haX := Lib.hid haX
    clear hXe'
    have HM25 := Lib.hid hm22
    clear hm22
    simp only [Act.put, List.setIfInBounds_toArray, List.set_cons_succ, List.set_cons_zero]
    refine wpS_this [2] rfl (by kernel_rfl) (by simp only [pickL, nthL, List.cons_append, List.nil_append]; rfl) ?_
    repeat (go_big_quiet_step (fail))
    refine wpQuiet_nil ?_
    refine wpS_nil ?_
    refine then_normal ?_
    refine wp_seq ?_
    refine wp_region_N [(0, 1)] (by kernel_rfl) ?_
    refine wpS_this [0] rfl (by kernel_rfl) (by simp only [pickL, nthL, List.cons_append, List.nil_append]; rfl) ?_
    repeat (go_big_quiet_step (fail))
    refine wpQuiet_nil ?_
    refine wpS_nil ?_
    refine then_normal ?_
    refine wp_seq ?_
    refine wp_seq ?_
    refine wp_region_N [(0, 1), (1, 3), (2, 1), (3, 1)] (by kernel_rfl) ?_
    refine wpS_this [0] rfl (by kernel_rfl) (by simp only [pickL, nthL, List.cons_append, List.nil_append]; rfl) ?_
    repeat (go_big_quiet_step (fail))
    refine wpQuiet_nil ?_
    refine wpS_doesU1 (i := 1) (d := some 23) (rem := [_, _]) rfl (by rfl) rfl Try.call13 (members_d (oldT W0) _ xb (rowOld hxb) (by omega)) rfl HM25.out [1] rfl covS_nil (fun _ => rfl) rfl ?_
    rintro u28 W27 hm26 -
    have haB := peersOf_asc xb
    obtain ⟨B, hBe'⟩ : ∃ x, peersOf xb (-1) = x := ⟨_, rfl⟩
    rw [hBe'] at hm26 haB
    obtain ⟨bp, bc, rfl⟩ := row_form (Mem.src hm26 0 rfl rowT_reads)
    have hB8 : B.length ≤ 8 := by rw [← hBe']; exact peersOf_len8 _ _
    have haB := Lib.hid haB
    clear hBe'
    have HM29 := Lib.hid hm26
    clear hm26
    simp only [Act.put, List.setIfInBounds_toArray, List.set_cons_succ, List.set_cons_zero]
    refine wpS_this [2, 3] rfl (by kernel_rfl) (by simp only [pickL, nthL, List.cons_append, List.nil_append]; rfl) ?_
    repeat (go_big_quiet_step (fail))
    refine wpQuiet_nil ?_
    refine wpS_nil ?_
    refine then_normal ?_
    refine wp_block ?_
    refine wp_loop_F [6, 8, 9, 11, 25, 26, 27, 28, 29, 30, 31, 32, 33, 34, 35, 36, 37, 38, 39, 40, 41, 42, 43, 44, 45, 46, 47, 48] (fun n vs W' => ∃ (k : Nat) (u : Value), n = B.length - k ∧ vs 25 = .int .i64 (k : Int) ∧ vs 6 = u ∧ k ≤ B.length ∧ Mem [rowT elemI u ((B.take k).filter fun n => !X.contains n), rowT elemI (.slice xp X.length xc) X, rowT elemI (.slice bp B.length bc) B, oldT W0] H w W') (n0 := B.length) ?_ ?_
    · exact ⟨0, _, rfl, rfl, rfl, Nat.zero_le _, Mem.nilRow elemI (Mem.only (M := [_, _, _]) HM29.out [2, 0, 0] rfl)⟩
    rintro n vs W' ⟨k, u, rfl, e25, e6, hk, hmm⟩
    simp only [putAll, List.map_cons, List.map_nil, Act.put, List.setIfInBounds_toArray, List.set_cons_succ, List.set_cons_zero]
    rw [e25, e6]
    clear e25 e6
    have hgl : ((B.take k).filter fun n => !X.contains n).length ≤ 8 := Nat.le_trans (List.length_filter_le _ _) (by rw [List.length_take]; omega)
    have HM30 := Lib.hid hmm
    clear hmm
    refine wp_seq ?_
    refine wp_region_N [(0, 1)] (by kernel_rfl) ?_
    refine wpS_this [0] rfl (by kernel_rfl) (by simp only [pickL, nthL, List.cons_append, List.nil_append]; rfl) ?_
    repeat (go_big_quiet_step (fail))
    refine wpQuiet_nil ?_
    refine wpS_nil ?_
    refine then_normal ?_
    refine wp_seq ?_
    refine wp_cond_split rfl (fun h31 => ?_) (fun h31 => ?_)
    · have hk1 : k + 1 ≤ B.length := by have : (k : Int) < ((B.length : Nat) : Int) := (by simpa using h31); omega
      clear h31
      obtain ⟨m, hn'⟩ : ∃ y, B[k]? = some y := ⟨_, List.getElem?_eq_getElem hk1⟩
      have hn := Lib.hid hn'
      clear hn'
      refine wp_skip ?_
      refine then_normal ?_
      refine wp_seq ?_
      refine wp_block ?_
      refine wp_seq ?_
      refine wp_region_N [(0, 1), (1, 1), (2, 1)] (by kernel_rfl) ?_
      refine wpS_index (E := elemI) (i := 0) (d := some 27) rfl (by rfl) rfl rfl rfl (HM30.out.row 2 rfl rowOwn) (hn.out) rfl ?_
      intro eb32 eo33 hc34
      simp only [Act.put, List.setIfInBounds_toArray, List.set_cons_succ, List.set_cons_zero]
      refine wpS_load1 (i := 1) (d := some 28) (u := .int .i64 m) rfl (by rfl) rfl rfl (hc34 0 _ rfl) Try.underlying3 rfl rfl ?_
      simp only [Act.put, List.setIfInBounds_toArray, List.set_cons_succ, List.set_cons_zero]
      refine wpS_this [2] rfl (by kernel_rfl) (by simp only [pickL, nthL, List.cons_append, List.nil_append]; rfl) ?_
      repeat (go_big_quiet_step (fail))
      refine wpQuiet_nil ?_
      refine wpS_nil ?_
      refine then_normal ?_
      refine wp_seq ?_
      refine wp_region_N [(0, 1)] (by kernel_rfl) ?_
      refine wpS_this [0] rfl (by kernel_rfl) (by simp only [pickL, nthL, List.cons_append, List.nil_append]; rfl) ?_
      repeat (go_big_quiet_step (fail))
      refine wpQuiet_nil ?_
      refine wpS_nil ?_
      refine then_normal ?_
      refine wp_seq ?_
      refine wp_seq ?_
      refine wp_region_N [(0, 1), (1, 1), (2, 1)] (by kernel_rfl) ?_
      refine wpS_this [0, 1, 2] rfl (by kernel_rfl) (by simp only [pickL, nthL, List.cons_append, List.nil_append]; rfl) ?_
      repeat (go_big_quiet_step (fail))
      refine wpQuiet_nil ?_
      refine wpS_nil ?_
      refine then_normal ?_
      refine wp_block ?_
      refine wp_loop_F [9, 11, 31, 32, 33, 34, 35, 36, 37, 38, 39, 40, 41] (fun n ws W' => ∃ i : Nat, n = X.length - i ∧ ws 31 = .int .i64 (i : Int) ∧ ws 9 = .bool ((X.take i).contains m) ∧ i ≤ X.length ∧ Mem [rowT elemI u ((B.take k).filter fun n => !X.contains n), rowT elemI (.slice xp X.length xc) X, rowT elemI (.slice bp B.length bc) B, oldT W0] H w W') (n0 := X.length) ?_ ?_
      · exact ⟨0, rfl, rfl, rfl, Nat.zero_le _, (Mem.only (M := [_, _, _, _]) HM30.out [0, 0, 0, 0] rfl)⟩
      rintro n ws W' ⟨i, rfl, e31, e9, hi, hmm2⟩
      simp only [putAll, List.map_cons, List.map_nil, Act.put, List.setIfInBounds_toArray, List.set_cons_succ, List.set_cons_zero]
      rw [e31, e9]
      clear e31 e9
      have HM35 := Lib.hid hmm2
      clear hmm2
      refine wp_seq ?_
      refine wp_region_N [(0, 1)] (by kernel_rfl) ?_
      refine wpS_this [0] rfl (by kernel_rfl) (by simp only [pickL, nthL, List.cons_append, List.nil_append]; rfl) ?_
      repeat (go_big_quiet_step (fail))
      refine wpQuiet_nil ?_
      refine wpS_nil ?_
      refine then_normal ?_
      refine wp_seq ?_
      refine wp_cond_split rfl (fun h36 => ?_) (fun h36 => ?_)
      · have hi1 : i + 1 ≤ X.length := by have : (i : Int) < ((X.length : Nat) : Int) := (by simpa using h36); omega
        clear h36
        obtain ⟨z, hm'⟩ : ∃ y, X[i]? = some y := ⟨_, List.getElem?_eq_getElem hi1⟩
        have hm := Lib.hid hm'
        clear hm'
        refine wp_skip ?_
        refine then_normal ?_
        refine wp_seq ?_
        refine wp_block ?_
        refine wp_seq ?_
        refine wp_region_N [(0, 1), (1, 1), (2, 1)] (by kernel_rfl) ?_
        refine wpS_index (E := elemI) (i := 0) (d := some 33) rfl (by rfl) rfl rfl rfl (HM35.out.row 1 rfl rowOwn) (hm.out) rfl ?_
        intro eb37 eo38 hc39
        simp only [Act.put, List.setIfInBounds_toArray, List.set_cons_succ, List.set_cons_zero]
        refine wpS_load1 (i := 1) (d := some 34) (u := .int .i64 z) rfl (by rfl) rfl rfl (hc39 0 _ rfl) Try.underlying3 rfl rfl ?_
        simp only [Act.put, List.setIfInBounds_toArray, List.set_cons_succ, List.set_cons_zero]
        refine wpS_this [2] rfl (by kernel_rfl) (by simp only [pickL, nthL, List.cons_append, List.nil_append]; rfl) ?_
        repeat (go_big_quiet_step (fail))
        refine wpQuiet_nil ?_
        refine wpS_nil ?_
        refine then_normal ?_
        rcases (show (X.take i).contains m = true ∨ ((X.take i).contains m = false ∧ (z == m) = true) ∨ ((X.take i).contains m = false ∧ (z == m) = false) from by cases (X.take i).contains m <;> cases (z == m) <;> simp) with hin | ⟨hin, hmn⟩ | ⟨hin, hmn⟩
        · rw [hin]
          replace hin := Lib.hid hin
          refine wp_region_N [(0, 1), (1, 1), (2, 1), (3, 1), (4, 1), (5, 1), (6, 1)] (by kernel_rfl) ?_
          refine wpS_this [0, 1, 2, 3, 4, 5, 6] rfl (by kernel_rfl) (by simp only [pickL, nthL, List.cons_append, List.nil_append]; rfl) ?_
          repeat (go_big_quiet_step (fail))
          refine wpQuiet_nil ?_
          refine wpS_nil ?_
          refine block_normal ?_
          refine then_normal ?_
          refine wp_region_N [(0, 1), (1, 1)] (by kernel_rfl) ?_
          refine wpS_this [0, 1] rfl (by kernel_rfl) (by simp only [pickL, nthL, List.cons_append, List.nil_append]; rfl) ?_
          repeat (go_big_quiet_step (fail))
          refine wpQuiet_nil ?_
          refine wpS_nil ?_
          refine then_normal ?_
          refine ⟨by kernel_rfl, ?_⟩
          refine ⟨X.length - (i + 1), by omega, i + 1, rfl, rfl, ?_, hi1, (Mem.only (M := [_, _, _, _]) HM35.out [0, 0, 0, 0] rfl)⟩
          rw [contains_take hm.out, hin.out]
          rfl
        · rw [hin]
          have g2 := hmn
          replace hin := Lib.hid hin
          replace hmn := Lib.hid hmn
          refine wp_region_N [(0, 1), (1, 1), (2, 1), (3, 1), (4, 1), (5, 1), (6, 1)] (by kernel_rfl) ?_
          refine wpS_this [0, 1, 2, 3, 4, 5, 6] rfl (by kernel_rfl) (by simp only [pickL, nthL, List.cons_append, List.nil_append]; rfl) ?_
          repeat (go_big_quiet_step (fail))
          refine wpQuiet_nil ?_
          refine wpS_nil ?_
          refine block_normal ?_
          refine then_normal ?_
          refine wp_region_N [(0, 1), (1, 1)] (by kernel_rfl) ?_
          refine wpS_this [0, 1] rfl (by kernel_rfl) (by simp only [pickL, nthL, List.cons_append, List.nil_append]; rfl) ?_
          repeat (go_big_quiet_step (fail))
          refine wpQuiet_nil ?_
          refine wpS_nil ?_
          refine then_normal ?_
          refine ⟨by kernel_rfl, ?_⟩
          refine ⟨X.length - (i + 1), by omega, i + 1, rfl, rfl, ?_, hi1, (Mem.only (M := [_, _, _, _]) HM35.out [0, 0, 0, 0] rfl)⟩
          rw [contains_take hm.out, hin.out, hmn.out]
          rfl
        · rw [hin]
          have g2 := hmn
          replace hin := Lib.hid hin
          replace hmn := Lib.hid hmn
          refine wp_region_N [(0, 1), (1, 1), (2, 1), (3, 1), (4, 1), (5, 1), (6, 1)] (by kernel_rfl) ?_
          refine wpS_this [0, 1, 2, 3, 4, 5, 6] rfl (by kernel_rfl) (by simp only [pickL, nthL, List.cons_append, List.nil_append]; rfl) ?_
          repeat (go_big_quiet_step (fail))
          refine wpQuiet_nil ?_
          refine wpS_nil ?_
          refine block_normal ?_
          refine then_normal ?_
          refine wp_region_N [(0, 1), (1, 1)] (by kernel_rfl) ?_
          refine wpS_this [0, 1] rfl (by kernel_rfl) (by simp only [pickL, nthL, List.cons_append, List.nil_append]; rfl) ?_
          repeat (go_big_quiet_step (fail))
          refine wpQuiet_nil ?_
          refine wpS_nil ?_
          refine then_normal ?_
          refine ⟨by kernel_rfl, ?_⟩
          refine ⟨X.length - (i + 1), by omega, i + 1, rfl, rfl, ?_, hi1, (Mem.only (M := [_, _, _, _]) HM35.out [0, 0, 0, 0] rfl)⟩
          rw [contains_take hm.out, hin.out, hmn.out]
          rfl
      · have hgeX : Hid (X.length ≤ i) := Lib.hid (by have : ¬ (i : Int) < (X.length : Int) := (by simpa using h36); omega)
        clear h36
        refine wp_exit ?_
        refine then_exit (then_exit (block_exit ?_))
        refine then_normal ?_
        refine wp_seq ?_
        have hti : X.take i = X := List.take_of_length_le (by have := hgeX.out; omega)
        rw [hti]
        clear hti
        cases hXn : X.contains m
        · replace hXn := Lib.hid hXn
          refine wp_region_N [(0, 1), (1, 1)] (by kernel_rfl) ?_
          refine wpS_this [0, 1] rfl (by kernel_rfl) (by simp only [pickL, nthL, List.cons_append, List.nil_append]; rfl) ?_
          repeat (go_big_quiet_step (fail))
          refine wpQuiet_nil ?_
          refine wpS_nil ?_
          refine then_normal ?_
          refine wp_cond_true rfl ?_
          refine wp_region_N [(0, 1), (1, 1), (2, 3), (3, 3), (4, 1)] (by kernel_rfl) ?_
          refine wpS_this [0, 1] rfl (by kernel_rfl) (by simp only [pickL, nthL, List.cons_append, List.nil_append]; rfl) ?_
          repeat (go_big_quiet_step (fail))
          refine wpQuiet_nil ?_
          refine wpS_build1 elemI (i := 2) (dd := 46) (y := m) rfl (by rfl) rfl rfl rfl (by decide) HM35.out covS_nil rfl ?_
          rintro b42 W43 hm44 -
          have HM45 := Lib.hid hm44
          clear hm44
          simp only [Act.put, List.setIfInBounds_toArray, List.set_cons_succ, List.set_cons_zero]
          refine wpS_append (E := elemI) (i := 3) (d := some 47) (L2 := [_, _, _, _]) rfl (by rfl) rfl HM45.out 1 rfl rfl ((HM45.out.src 0 rfl rowT_reads)) rfl (by simp only [List.length_cons, List.length_nil]; show _ * 8 ≤ _; omega) rfl covS_nil rfl ?_
          rintro u48 W49 hm50 -
          have HM51 := Lib.hid hm50
          clear hm50
          simp only [Act.put, List.setIfInBounds_toArray, List.set_cons_succ, List.set_cons_zero]
          refine wpS_this [4] rfl (by kernel_rfl) (by simp only [pickL, nthL, List.cons_append, List.nil_append]; rfl) ?_
          repeat (go_big_quiet_step (fail))
          refine wpQuiet_nil ?_
          refine wpS_nil ?_
          refine block_normal ?_
          refine then_normal ?_
          refine wp_region_N [(0, 1), (1, 1)] (by kernel_rfl) ?_
          refine wpS_this [0, 1] rfl (by kernel_rfl) (by simp only [pickL, nthL, List.cons_append, List.nil_append]; rfl) ?_
          repeat (go_big_quiet_step (fail))
          refine wpQuiet_nil ?_
          refine wpS_nil ?_
          refine then_normal ?_
          refine ⟨by kernel_rfl, ?_⟩
          refine ⟨B.length - (k + 1), by omega, k + 1, _, rfl, rfl, rfl, hk1, ?_⟩
          rw [filter_take _ hn.out, if_pos (by rw [hXn.out]; simp)]
          exact (Mem.only (M := [_, _, _, _]) HM51.out [0, 1, 1, 1] rfl)
        · replace hXn := Lib.hid hXn
          refine wp_region_N [(0, 1), (1, 1)] (by kernel_rfl) ?_
          refine wpS_this [0, 1] rfl (by kernel_rfl) (by simp only [pickL, nthL, List.cons_append, List.nil_append]; rfl) ?_
          repeat (go_big_quiet_step (fail))
          refine wpQuiet_nil ?_
          refine wpS_nil ?_
          refine then_normal ?_
          refine wp_cond_false rfl ?_
          refine wp_skip ?_
          refine block_normal ?_
          refine then_normal ?_
          refine wp_region_N [(0, 1), (1, 1)] (by kernel_rfl) ?_
          refine wpS_this [0, 1] rfl (by kernel_rfl) (by simp only [pickL, nthL, List.cons_append, List.nil_append]; rfl) ?_
          repeat (go_big_quiet_step (fail))
          refine wpQuiet_nil ?_
          refine wpS_nil ?_
          refine then_normal ?_
          refine ⟨by kernel_rfl, ?_⟩
          refine ⟨B.length - (k + 1), by omega, k + 1, _, rfl, rfl, rfl, hk1, ?_⟩
          rw [filter_take _ hn.out, if_neg (by rw [hXn.out]; simp), List.append_nil]
          exact (Mem.only (M := [_, _, _, _]) HM35.out [0, 0, 0, 0] rfl)
    · have hgeB : Hid (B.length ≤ k) := Lib.hid (by have : ¬ (k : Int) < (B.length : Int) := (by simpa using h31); omega)
      clear h31
      refine wp_exit ?_
      refine then_exit (then_exit (block_exit ?_))
      refine then_normal ?_
      refine wp_seq ?_
      refine wp_seq ?_
      have htk : B.take k = B := List.take_of_length_le (by have := hgeB.out; omega)
      have hmz := HM30.out
      rw [htk] at hmz
      have haY := asc_filter haB.out (fun n => !X.contains n)
      have hXY : ∀ x, x ∈ X → x ∉ (B.filter fun n => !X.contains n) := fun x hx hy => by have := (List.mem_filter.1 hy).2; simp [hx] at this
      obtain ⟨Y, hY'⟩ : ∃ z, (B.filter fun n => !X.contains n) = z := ⟨_, rfl⟩
      have hY8 : Y.length ≤ 8 := by rw [← hY']; exact Nat.le_trans (List.length_filter_le _ _) hB8
      rw [hY'] at hmz haY hXY
      have haY := Lib.hid haY
      have hXY := Lib.hid hXY
      clear htk hY'
      obtain ⟨yp, yc, rfl⟩ := row_form (Mem.src hmz 0 rfl rowT_reads)
      have HMZ := Lib.hid hmz
      clear hmz
      rcases (show X.length = 0 ∨ (X.length ≠ 0 ∧ Y.length = 0) ∨ (X.length ≠ 0 ∧ Y.length ≠ 0) from by omega) with hx0 | ⟨hx0, hy0⟩ | ⟨hx0, hy0⟩
      · have g1 : ((X.length : Int) == 0) = true := beq_iff_eq.2 (by omega)
        have g1' : (X.length == 0) = true := beq_iff_eq.2 hx0
        refine wp_region_N [(0, 1), (1, 1), (2, 1), (3, 1), (4, 1), (5, 1), (6, 1), (7, 1)] (by kernel_rfl) ?_
        refine wpS_this [0, 1, 2, 3, 4, 5, 6, 7] rfl (by kernel_rfl) (by simp only [pickL, nthL, List.cons_append, List.nil_append]; rfl) ?_
        repeat (go_big_quiet_step (fail))
        refine wpQuiet_nil ?_
        refine wpS_nil ?_
        refine then_normal ?_
        refine wp_cond_true rfl ?_
        refine wp_seq ?_
        refine wp_region_N [(0, 3), (1, 1)] (by kernel_rfl) ?_
        refine wpS_does0 (i := 0) (d := some 57) (rem := [_, _, _, _]) (out := [_, _, _, _]) rfl (by rfl) rfl Try.call11 (awake_d)  HMZ.out [] rfl covS_nil rfl rfl ?_
        rintro W53 hm52 -
        have HM54 := Lib.hid hm52
        clear hm52
        simp only [Act.put, List.setIfInBounds_toArray, List.set_cons_succ, List.set_cons_zero]
        refine wpS_this [1] rfl (by kernel_rfl) (by simp only [pickL, nthL, List.cons_append, List.nil_append]; rfl) ?_
        repeat (go_big_quiet_step (fail))
        refine wpQuiet_nil ?_
        refine wpS_nil ?_
        refine then_normal ?_
        refine wp_ret ?_
        refine then_ret ?_
        refine bodyPost_ret (results_tmp rfl _ _ _) rfl ?_
        exact does_ret (Mem.only (M := [_]) HM54.out [3] rfl) rfl rfl
      · have g1 : ((X.length : Int) == 0) = false := beq_eq_false_iff_ne.2 (by omega)
        have g1' : (X.length == 0) = false := beq_eq_false_iff_ne.2 hx0
        have g2 : ((Y.length : Int) == 0) = true := beq_iff_eq.2 (by omega)
        have g2' : (Y.length == 0) = true := beq_iff_eq.2 hy0
        refine wp_region_N [(0, 1), (1, 1), (2, 1), (3, 1), (4, 1), (5, 1), (6, 1), (7, 1)] (by kernel_rfl) ?_
        refine wpS_this [0, 1, 2, 3, 4, 5, 6, 7] rfl (by kernel_rfl) (by simp only [pickL, nthL, List.cons_append, List.nil_append]; rfl) ?_
        repeat (go_big_quiet_step (fail))
        refine wpQuiet_nil ?_
        refine wpS_nil ?_
        refine then_normal ?_
        refine wp_cond_true rfl ?_
        refine wp_seq ?_
        refine wp_region_N [(0, 3), (1, 1)] (by kernel_rfl) ?_
        refine wpS_does0 (i := 0) (d := some 57) (rem := [_, _, _, _]) (out := [_, _, _, _]) rfl (by rfl) rfl Try.call11 (awake_d)  HMZ.out [] rfl covS_nil rfl rfl ?_
        rintro W56 hm55 -
        have HM57 := Lib.hid hm55
        clear hm55
        simp only [Act.put, List.setIfInBounds_toArray, List.set_cons_succ, List.set_cons_zero]
        refine wpS_this [1] rfl (by kernel_rfl) (by simp only [pickL, nthL, List.cons_append, List.nil_append]; rfl) ?_
        repeat (go_big_quiet_step (fail))
        refine wpQuiet_nil ?_
        refine wpS_nil ?_
        refine then_normal ?_
        refine wp_ret ?_
        refine then_ret ?_
        refine bodyPost_ret (results_tmp rfl _ _ _) rfl ?_
        exact does_ret (Mem.only (M := [_]) HM57.out [3] rfl) rfl rfl
      · have g1 : ((X.length : Int) == 0) = false := beq_eq_false_iff_ne.2 (by omega)
        have g1' : (X.length == 0) = false := beq_eq_false_iff_ne.2 hx0
        have g2 : ((Y.length : Int) == 0) = false := beq_eq_false_iff_ne.2 (by omega)
        have g2' : (Y.length == 0) = false := beq_eq_false_iff_ne.2 hy0
        have hXne : Hid (X ≠ []) := Lib.hid fun e => hx0 (by rw [e]; rfl)
        have hYne : Hid (Y ≠ []) := Lib.hid fun e => hy0 (by rw [e]; rfl)
        refine wp_region_N [(0, 1), (1, 1), (2, 1), (3, 1), (4, 1), (5, 1), (6, 1), (7, 1)] (by kernel_rfl) ?_
        refine wpS_this [0, 1, 2, 3, 4, 5, 6, 7] rfl (by kernel_rfl) (by simp only [pickL, nthL, List.cons_append, List.nil_append]; rfl) ?_
        repeat (go_big_quiet_step (fail))
        refine wpQuiet_nil ?_
        refine wpS_nil ?_
        refine then_normal ?_
        refine wp_cond_false rfl ?_
        refine wp_skip ?_
        refine then_normal ?_
        refine wp_seq ?_
        refine wp_region_N [(0, 1), (1, 3), (2, 1)] (by kernel_rfl) ?_
        refine wpS_this [0] rfl (by kernel_rfl) (by simp only [pickL, nthL, List.cons_append, List.nil_append]; rfl) ?_
        repeat (go_big_quiet_step (fail))
        refine wpQuiet_nil ?_
        refine wpS_doesU2 (i := 1) (d := some 59) (rem := [_, _, _]) rfl (by rfl) rfl Try.call17 (assign_d (rowT elemI (.slice xp X.length xc) X) _ _ [] X (rowNil _) rowOwn (by omega)) rfl rfl HMZ.out [1] rfl covS_nil (fun _ => rfl) rfl ?_
        rintro u60 W59 hm58 -
        rw [peers_of_asc haX.out] at hm58
        obtain ⟨P, hP'⟩ : ∃ z, assignOf [] X = z := ⟨_, rfl⟩
        rw [hP'] at hm58
        have hP := Lib.hid hP'
        clear hP'
        have HM61 := Lib.hid hm58
        clear hm58
        simp only [Act.put, List.setIfInBounds_toArray, List.set_cons_succ, List.set_cons_zero]
        refine wpS_this [2] rfl (by kernel_rfl) (by simp only [pickL, nthL, List.cons_append, List.nil_append]; rfl) ?_
        repeat (go_big_quiet_step (fail))
        refine wpQuiet_nil ?_
        refine wpS_nil ?_
        refine then_normal ?_
        refine wp_seq ?_
        refine wp_region_N [(0, 1), (1, 1), (2, 3), (3, 1)] (by kernel_rfl) ?_
        refine wpS_this [0, 1] rfl (by kernel_rfl) (by simp only [pickL, nthL, List.cons_append, List.nil_append]; rfl) ?_
        repeat (go_big_quiet_step (fail))
        refine wpQuiet_nil ?_
        refine wpS_doesU2 (i := 2) (d := some 62) (rem := [_, _, _]) rfl (by rfl) rfl Try.call17 (DoesU.ofList (assign_d (listT [_, _]) _ _ P Y (rowL 0 rfl rdRow_reads) (rowL 1 rfl rowOwn) (by omega))) rfl rfl HM61.out [0, 1] rfl covS_nil (fun _ => rfl) rfl ?_
        rintro u64 W63 hm62 -
        rw [peers_of_asc haY.out] at hm62
        obtain ⟨Q, hQ'⟩ : ∃ z, assignOf P Y = z := ⟨_, rfl⟩
        rw [hQ'] at hm62
        have hQ := Lib.hid hQ'
        clear hQ'
        have HM65 := Lib.hid hm62
        clear hm62
        simp only [Act.put, List.setIfInBounds_toArray, List.set_cons_succ, List.set_cons_zero]
        refine wpS_this [3] rfl (by kernel_rfl) (by simp only [pickL, nthL, List.cons_append, List.nil_append]; rfl) ?_
        repeat (go_big_quiet_step (fail))
        refine wpQuiet_nil ?_
        refine wpS_nil ?_
        refine then_normal ?_
        refine wp_seq ?_
        skip
        · have hAP : Hid (Assigned [] X P) := Lib.hid (by rw [← hP.out]; exact assigned (asc_ok haX.out) hXne.out)
          have hAQ : Hid (Assigned P Y Q) := Lib.hid (by rw [← hQ.out]; exact assigned (asc_ok haY.out) hYne.out)
          have hPn := swap_none hXY.out hAP.out
          have hQn := swap_none (fun x hy hx => hXY.out x hx hy) hAQ.out
          have hmv0 : movesOf P Q = 16 := moves_all fun p hp e => by
              have h2 := hAQ.out.each p _ (atL_some (by rw [hAQ.out.len]; exact hp))
              rw [← e] at h2
              exact hPn p hp h2
          have hmv : Hid (((movesOf P Q : Nat) : Int) = 16) := Lib.hid (by rw [hmv0]; rfl)
          clear hmv0
          have hqn : Hid (quotasOf P Y = quotasOf [] Y) := Lib.hid (by unfold quotasOf; rw [quota_none hPn (nil_none (asc_ok haY.out))])
          have han : Hid (assignOf [] Y = Q) := Lib.hid (by rw [← hQ.out]; exact assign_none (nil_none (asc_ok haY.out)) hPn)
          have hback : Hid (assignOf Q X = P) := Lib.hid (by rw [← hP.out]; exact assign_none hQn (nil_none (asc_ok haX.out)))
          clear hPn hQn
          refine wp_region_N [(0, 1), (1, 1), (2, 3), (3, 1), (4, 1), (5, 1), (6, 1), (7, 3), (8, 1), (9, 3), (10, 3), (11, 1), (12, 1), (13, 1), (14, 3), (15, 1), (16, 1), (17, 3), (18, 3), (19, 1), (20, 1), (21, 1), (22, 1), (23, 3), (24, 1), (25, 3), (26, 1), (27, 1), (28, 3), (29, 1), (30, 1)] (by kernel_rfl) ?_
          refine wpS_this [0, 1] rfl (by kernel_rfl) (by simp only [pickL, nthL, List.cons_append, List.nil_append]; rfl) ?_
          repeat (go_big_quiet_step (fail))
          refine wpQuiet_nil ?_
          refine wpS_does2 (i := 2) (d := some 65) (rem := [_, _, _, _]) (out := [_, _, _, _, _, _]) rfl (by rfl) rfl Try.call19 (Does.ofList (moves_d (listT [_, _]) _ _ P Q (rowL 0 rfl rdRow_reads) (rowL 1 rfl rdRow_reads))) rfl rfl HM65.out [1, 0] rfl covS_nil rfl rfl ?_
          rintro W67 hm66 -
          rw [hmv.out]
          have HM68 := Lib.hid hm66
          clear hm66
          simp only [Act.put, List.setIfInBounds_toArray, List.set_cons_succ, List.set_cons_zero]
          refine wpS_this [3, 4, 5, 6] rfl (by kernel_rfl) (by simp only [pickL, nthL, List.cons_append, List.nil_append]; rfl) ?_
          repeat (go_big_quiet_step (fail))
          refine wpQuiet_nil ?_
          refine wpS_doesU2 (i := 7) (d := some 70) (rem := [_, _, _, _]) rfl (by rfl) rfl Try.call15 (DoesU.ofList (quotas_d (listT [_, _]) _ _ P Y (rowL 0 rfl rdRow_reads) (rowL 1 rfl rowOwn) (by omega))) rfl rfl HM68.out [0, 1] rfl covS_nil (fun _ => rfl) rfl ?_
          rintro u71 W70 hm69 -
          rw [peers_of_asc haY.out, hqn.out] at hm69
          have HM72 := Lib.hid hm69
          clear hm69
          simp only [Act.put, List.setIfInBounds_toArray, List.set_cons_succ, List.set_cons_zero]
          refine wpS_this [8] rfl (by kernel_rfl) (by simp only [pickL, nthL, List.cons_append, List.nil_append]; rfl) ?_
          repeat (go_big_quiet_step (fail))
          refine wpQuiet_nil ?_
          refine wpS_doesU2 (i := 9) (d := some 72) (rem := [_, _, _, _, _, _]) rfl (by rfl) rfl Try.call15 (quotas_d (rowT elemI _ Y) _ _ [] Y (rowNil _) rowOwn (by omega)) rfl rfl HM72.out [2] rfl covS_nil (fun _ => rfl) rfl ?_
          rintro u75 W74 hm73 -
          rw [peers_of_asc haY.out] at hm73
          have HM76 := Lib.hid hm73
          clear hm73
          simp only [Act.put, List.setIfInBounds_toArray, List.set_cons_succ, List.set_cons_zero]
          refine wpS_does2 (i := 10) (d := some 73) (rem := [_, _, _, _, _, _]) (out := [_, _, _, _, _, _, _, _]) rfl (by rfl) rfl Try.call12 (Does.ofList (same_t (listT [_, _]) _ _ _ (rowL 0 rfl rowOwn) (rowL 1 rfl rowOwn) (by unfold quotasOf; rw [List.length_map]; omega))) rfl rfl HM76.out [2, 0] rfl covS_nil rfl rfl ?_
          rintro W78 hm77 -
          have HM79 := Lib.hid hm77
          clear hm77
          simp only [Act.put, List.setIfInBounds_toArray, List.set_cons_succ, List.set_cons_zero]
          refine wpS_this [11, 12, 13] rfl (by kernel_rfl) (by simp only [pickL, nthL, List.cons_append, List.nil_append]; rfl) ?_
          repeat (go_big_quiet_step (fail))
          refine wpQuiet_nil ?_
          refine wpS_doesU2 (i := 14) (d := some 77) (rem := [_, _, _, _, _, _, _]) rfl (by rfl) rfl Try.call17 (assign_d (rowT elemI _ Y) _ _ [] Y (rowNil _) rowOwn (by omega)) rfl rfl HM79.out [2] rfl covS_nil (fun _ => rfl) rfl ?_
          rintro u82 W81 hm80 -
          rw [peers_of_asc haY.out, han.out] at hm80
          have HM83 := Lib.hid hm80
          clear hm80
          simp only [Act.put, List.setIfInBounds_toArray, List.set_cons_succ, List.set_cons_zero]
          refine wpS_this [15, 16] rfl (by kernel_rfl) (by simp only [pickL, nthL, List.cons_append, List.nil_append]; rfl) ?_
          repeat (go_big_quiet_step (fail))
          refine wpQuiet_nil ?_
          refine wpS_doesU2 (i := 17) (d := some 80) (rem := [_, _, _, _, _, _, _]) rfl (by rfl) rfl Try.call17 (DoesU.ofList (assign_d (listT [_, _]) _ _ P Y (rowL 0 rfl rdRow_reads) (rowL 1 rfl rowOwn) (by omega))) rfl rfl HM83.out [4, 1] rfl covS_nil (fun _ => rfl) rfl ?_
          rintro u86 W85 hm84 -
          rw [peers_of_asc haY.out, hQ.out] at hm84
          have HM87 := Lib.hid hm84
          clear hm84
          simp only [Act.put, List.setIfInBounds_toArray, List.set_cons_succ, List.set_cons_zero]
          refine wpS_does2 (i := 18) (d := some 81) (rem := [_, _, _, _, _, _, _, _]) (out := [_, _, _, _, _, _, _, _, _, _]) rfl (by rfl) rfl Try.call12 (Does.ofList (same_t (listT [_, _]) _ _ _ (rowL 0 rfl rdRow_reads) (rowL 1 rfl rdRow_reads) (by rw [hAQ.out.len]; decide))) rfl rfl HM87.out [3, 0] rfl covS_nil rfl rfl ?_
          rintro W89 hm88 -
          have HM90 := Lib.hid hm88
          clear hm88
          simp only [Act.put, List.setIfInBounds_toArray, List.set_cons_succ, List.set_cons_zero]
          refine wpS_this [19, 20, 21, 22] rfl (by kernel_rfl) (by simp only [pickL, nthL, List.cons_append, List.nil_append]; rfl) ?_
          repeat (go_big_quiet_step (fail))
          refine wpQuiet_nil ?_
          refine wpS_doesU2 (i := 23) (d := some 86) (rem := [_, _, _, _, _, _, _, _]) rfl (by rfl) rfl Try.call17 (DoesU.ofList (assign_d (listT [_, _]) _ _ Q X (rowL 0 rfl rdRow_reads) (rowL 1 rfl rowOwn) (by omega))) rfl rfl HM90.out [6, 6] rfl covS_nil (fun _ => rfl) rfl ?_
          rintro u93 W92 hm91 -
          rw [peers_of_asc haX.out, hback.out] at hm91
          have HM94 := Lib.hid hm91
          clear hm91
          simp only [Act.put, List.setIfInBounds_toArray, List.set_cons_succ, List.set_cons_zero]
          refine wpS_this [24] rfl (by kernel_rfl) (by simp only [pickL, nthL, List.cons_append, List.nil_append]; rfl) ?_
          repeat (go_big_quiet_step (fail))
          refine wpQuiet_nil ?_
          refine wpS_does2 (i := 25) (d := some 88) (rem := [_, _, _, _, _, _, _, _, _]) (out := [_, _, _, _, _, _, _, _, _, _, _]) rfl (by rfl) rfl Try.call12 (Does.ofList (same_t (listT [_, _]) _ _ _ (rowL 0 rfl rdRow_reads) (rowL 1 rfl rdRow_reads) (by rw [hAP.out.len]; decide))) rfl rfl HM94.out [0, 4] rfl covS_nil rfl rfl ?_
          rintro W96 hm95 -
          have HM97 := Lib.hid hm95
          clear hm95
          simp only [Act.put, List.setIfInBounds_toArray, List.set_cons_succ, List.set_cons_zero]
          refine wpS_this [26, 27] rfl (by kernel_rfl) (by simp only [pickL, nthL, List.cons_append, List.nil_append]; rfl) ?_
          repeat (go_big_quiet_step (fail))
          refine wpQuiet_nil ?_
          refine wpS_does0 (i := 28) (d := some 91) (rem := [_, _, _, _, _, _, _, _, _, _, _]) (out := [_, _, _, _, _, _, _, _, _, _, _]) rfl (by rfl) rfl Try.call11 (awake_d)  HM97.out [] rfl covS_nil rfl rfl ?_
          rintro W99 hm98 -
          have HM100 := Lib.hid hm98
          clear hm98
          simp only [Act.put, List.setIfInBounds_toArray, List.set_cons_succ, List.set_cons_zero]
          refine wpS_this [29, 30] rfl (by kernel_rfl) (by simp only [pickL, nthL, List.cons_append, List.nil_append]; rfl) ?_
          repeat (go_big_quiet_step (fail))
          refine wpQuiet_nil ?_
          refine wpS_nil ?_
          refine then_normal ?_
          refine wp_ret ?_
          refine bodyPost_ret (results_tmp rfl _ _ _) rfl ?_
          exact does_ret (Mem.only (M := [_]) HM100.out [10] rfl) rfl rfl

end Go.Proofs.Ytagpbmgeikjnjaa
