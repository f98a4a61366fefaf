/- ClaimCome: its walk. -/
import Derived.Test.YtagpbmgeikjnjaaClmR
namespace Go.Proofs.Ytagpbmgeikjnjaa
open Go Go.RowKit Go.BigFrame

theorem one_more {ms : List Int} {n : Int} (hn : 0 ≤ n ∧ n < 8) (hne : peersOf (ms.filter fun x => x != n) (-1) ≠ []) : OneMore (peersOf (ms.filter fun x => x != n) (-1)) (peersOf ([] ++ (ms.filter fun x => x != n) ++ [n]) (-1)) n where
  okR := peersOf_ok _ _
  okM := peersOf_ok _ _
  ne := hne
  new h := by
    have h1 := (peersOf_mem.1 h).2.1
    have h2 := (List.mem_filter.1 h1).2
    simp at h2
  mem x := by
    rw [peersOf_mem, peersOf_mem]
    simp only [List.nil_append, List.mem_append, List.mem_singleton]
    constructor
    · rintro ⟨h1, h2 | h2, h3⟩
      · exact .inl ⟨h1, h2, h3⟩
      · exact .inr h2
    · rintro (⟨h1, h2, h3⟩ | rfl)
      · exact ⟨h1, .inl h2, h3⟩
      · exact ⟨hn, .inr rfl, by omega⟩
theorem ne_of_new {R M : List Int} {n : Int} (h : OneMore R M n) : M ≠ [] := fun e => by
  have := (h.mem n).2 (.inr rfl)
  rw [e] at this
  simp at this
set_option maxHeartbeats 4000000 in
set_option maxRecDepth 100000 in
theorem come_d (tn : Int) (W0 : World) (vms : Value) (ms : List Int) (hms : RowAt elemI W0 vms ms) : Does Try.prog 6 #[vms, .int .i64 tn] [oldT W0] (.bool true) [oldT W0] := by
  intro w H hp
  have HM0 := Lib.hid (mem_refl hp)
  clear hp
  obtain ⟨pms, cms, rfl⟩ := rd_form hms
  go_enter Try.func6, Try.ntmps6
  refine wp_seq ?_
  refine wp_region_N [(0, 1)] (by kernel_rfl) ?_
  refine wpS_this [0] rfl (by kernel_rfl) (by simp only [pickL, nthL, List.cons_append, List.nil_append]; rfl) ?_
  repeat (go_big_quiet_step (fail))
  refine wpQuiet_nil ?_
  refine wpS_nil ?_
  refine then_normal ?_
  refine wp_seq ?_
  refine wp_seq ?_
  cases hfw : fewB [⟨pms, ms.length, cms⟩]
  · skip
    refine wp_region_N [(0, 1), (1, 3), (2, 3), (3, 1)] (by kernel_rfl) ?_
    refine wpS_this [0] rfl (by kernel_rfl) (by simp only [pickL, nthL, List.cons_append, List.nil_append]; rfl) ?_
    repeat (go_big_quiet_step (fail))
    refine wpQuiet_nil ?_
    refine wpS_buildN elemS (i := 1) (dd := 13) (n := 1) (xs := [⟨pms, ms.length, cms⟩]) (cs := #[.slice pms ms.length cms]) rfl (by rfl) (fun _ => by kernel_rfl) rfl rfl HM0.out covS_nil rfl ?_
    rintro b3 W4 hm5 -
    have HM6 := Lib.hid hm5
    clear hm5
    simp only [Act.put, List.setIfInBounds_toArray, List.set_cons_succ, List.set_cons_zero]
    refine wpS_does1 (i := 2) (d := some 14) (rem := [_]) (out := [_, _]) rfl (by rfl) rfl Try.call10 (few_d (rowT elemS _ _) _ [⟨pms, ms.length, cms⟩] rowS (by simp)) rfl HM6.out [0] rfl covS_nil rfl rfl ?_
    rintro W8 hm7 -
    rw [hfw]
    have HM9 := Lib.hid hm7
    clear hm7
    simp only [Act.put, List.setIfInBounds_toArray, List.set_cons_succ, List.set_cons_zero]
    refine wpS_this [3] rfl (by kernel_rfl) (by simp only [pickL, nthL, List.cons_append, List.nil_append]; rfl) ?_
    repeat (go_big_quiet_step (fail))
    refine wpQuiet_nil ?_
    refine wpS_nil ?_
    refine then_normal ?_
    refine wp_cond_true rfl ?_
    refine wp_seq ?_
    refine wp_region_N [(0, 3), (1, 1)] (by kernel_rfl) ?_
    refine wpS_does0 (i := 0) (d := some 16) (rem := [_, _]) (out := [_, _]) rfl (by rfl) rfl Try.call11 (awake_d)  HM9.out [] rfl covS_nil rfl rfl ?_
    rintro W11 hm10 -
    have HM12 := Lib.hid hm10
    clear hm10
    simp only [Act.put, List.setIfInBounds_toArray, List.set_cons_succ, List.set_cons_zero]
    refine wpS_this [1] rfl (by kernel_rfl) (by simp only [pickL, nthL, List.cons_append, List.nil_append]; rfl) ?_
    repeat (go_big_quiet_step (fail))
    refine wpQuiet_nil ?_
    refine wpS_nil ?_
    refine then_normal ?_
    refine wp_ret ?_
    refine then_ret ?_
    refine bodyPost_ret (results_tmp rfl _ _ _) rfl ?_
    exact does_ret (Mem.only (M := [_]) HM12.out [1] rfl) rfl rfl
  · have hbb : ms.length ≤ 100 := by simpa [fewB] using hfw
    have hbms := hbb
    refine wp_region_N [(0, 1), (1, 3), (2, 3), (3, 1)] (by kernel_rfl) ?_
    refine wpS_this [0] rfl (by kernel_rfl) (by simp only [pickL, nthL, List.cons_append, List.nil_append]; rfl) ?_
    repeat (go_big_quiet_step (fail))
    refine wpQuiet_nil ?_
    refine wpS_buildN elemS (i := 1) (dd := 13) (n := 1) (xs := [⟨pms, ms.length, cms⟩]) (cs := #[.slice pms ms.length cms]) rfl (by rfl) (fun _ => by kernel_rfl) rfl rfl HM0.out covS_nil rfl ?_
    rintro b15 W16 hm17 -
    have HM18 := Lib.hid hm17
    clear hm17
    simp only [Act.put, List.setIfInBounds_toArray, List.set_cons_succ, List.set_cons_zero]
    refine wpS_does1 (i := 2) (d := some 14) (rem := [_]) (out := [_, _]) rfl (by rfl) rfl Try.call10 (few_d (rowT elemS _ _) _ [⟨pms, ms.length, cms⟩] rowS (by simp)) rfl HM18.out [0] rfl covS_nil rfl rfl ?_
    rintro W20 hm19 -
    rw [hfw]
    have HM21 := Lib.hid hm19
    clear hm19
    simp only [Act.put, List.setIfInBounds_toArray, List.set_cons_succ, List.set_cons_zero]
    refine wpS_this [3] rfl (by kernel_rfl) (by simp only [pickL, nthL, List.cons_append, List.nil_append]; rfl) ?_
    repeat (go_big_quiet_step (fail))
    refine wpQuiet_nil ?_
    refine wpS_nil ?_
    refine then_normal ?_
    refine wp_cond_false rfl ?_
    refine wp_skip ?_
    refine then_normal ?_
    refine wp_seq ?_
    obtain ⟨N, hN8, hmod'⟩ := mod_small 8 (by decide) (by decide) tn
    · have hmod := Lib.hid hmod'
      clear hmod'
      refine wp_region_N [(0, 1), (1, 1), (2, 1), (3, 1), (4, 1)] (by kernel_rfl) ?_
      refine wpS_this [0, 1, 2, 3, 4] rfl (by kernel_rfl) (by simp only [pickL, nthL, List.cons_append, List.nil_append]; rfl) ?_
      repeat (go_big_quiet_step (fail))
      refine wpQuiet_nil ?_
      refine wpS_nil ?_
      refine then_normal ?_
      refine wp_seq ?_
      rw [hmod.out]
      · skip
        refine wp_region_N [(0, 1)] (by kernel_rfl) ?_
        refine wpS_this [0] rfl (by kernel_rfl) (by simp only [pickL, nthL, List.cons_append, List.nil_append]; rfl) ?_
        repeat (go_big_quiet_step (fail))
        refine wpQuiet_nil ?_
        refine wpS_nil ?_
        refine then_normal ?_
        refine wp_seq ?_
        refine wp_seq ?_
        refine wp_region_N [(0, 1), (1, 1), (2, 1)] (by kernel_rfl) ?_
        refine wpS_this [0, 1, 2] rfl (by kernel_rfl) (by simp only [pickL, nthL, List.cons_append, List.nil_append]; rfl) ?_
        repeat (go_big_quiet_step (fail))
        refine wpQuiet_nil ?_
        refine wpS_nil ?_
        refine then_normal ?_
        refine wp_block ?_
        refine wp_loop_F [5, 7, 23, 24, 25, 26, 27, 28, 29, 30, 31, 32, 33, 34] (fun n vs W' => ∃ (k : Nat) (u : Value), n = ms.length - k ∧ vs 23 = .int .i64 (k : Int) ∧ vs 5 = u ∧ k ≤ ms.length ∧ Mem [rowT elemI u ((ms.take k).filter fun x => x != (N : Int)), oldT W0] H w W') (n0 := ms.length) ?_ ?_
        · exact ⟨0, _, rfl, rfl, rfl, Nat.zero_le _, Mem.nilRow elemI (Mem.only (M := [_]) HM21.out [1] rfl)⟩
        rintro n vs W' ⟨k, u, rfl, e23, e5, hk, hmm⟩
        simp only [putAll, List.map_cons, List.map_nil, Act.put, List.setIfInBounds_toArray, List.set_cons_succ, List.set_cons_zero]
        rw [e23, e5]
        clear e23 e5
        have hgl : ((ms.take k).filter fun x => x != (N : Int)).length ≤ 100 := Nat.le_trans (List.length_filter_le _ _) (by rw [List.length_take]; omega)
        have HM22 := Lib.hid hmm
        clear hmm
        refine wp_seq ?_
        refine wp_region_N [(0, 1)] (by kernel_rfl) ?_
        refine wpS_this [0] rfl (by kernel_rfl) (by simp only [pickL, nthL, List.cons_append, List.nil_append]; rfl) ?_
        repeat (go_big_quiet_step (fail))
        refine wpQuiet_nil ?_
        refine wpS_nil ?_
        refine then_normal ?_
        refine wp_seq ?_
        refine wp_cond_split rfl (fun h23 => ?_) (fun h23 => ?_)
        · have hk1 : k + 1 ≤ ms.length := by have : (k : Int) < ((ms.length : Nat) : Int) := (by simpa using h23); omega
          clear h23
          obtain ⟨x, hx'⟩ : ∃ y, ms[k]? = some y := ⟨_, List.getElem?_eq_getElem hk1⟩
          have hx := Lib.hid hx'
          clear hx'
          refine wp_skip ?_
          refine then_normal ?_
          refine wp_seq ?_
          refine wp_block ?_
          refine wp_seq ?_
          refine wp_region_N [(0, 1), (1, 1), (2, 1)] (by kernel_rfl) ?_
          refine wpS_index (E := elemI) (i := 0) (d := some 25) rfl (by rfl) rfl rfl rfl (HM22.out.row 1 rfl (rowOld hms)) (hx.out) rfl ?_
          intro eb24 eo25 hc26
          simp only [Act.put, List.setIfInBounds_toArray, List.set_cons_succ, List.set_cons_zero]
          refine wpS_load1 (i := 1) (d := some 26) (u := .int .i64 x) rfl (by rfl) rfl rfl (hc26 0 _ rfl) Try.underlying3 rfl rfl ?_
          simp only [Act.put, List.setIfInBounds_toArray, List.set_cons_succ, List.set_cons_zero]
          refine wpS_this [2] rfl (by kernel_rfl) (by simp only [pickL, nthL, List.cons_append, List.nil_append]; rfl) ?_
          repeat (go_big_quiet_step (fail))
          refine wpQuiet_nil ?_
          refine wpS_nil ?_
          refine then_normal ?_
          refine wp_seq ?_
          cases hxn : (x != (N : Int))
          · have g1 := hxn
            replace hxn := Lib.hid hxn
            refine wp_region_N [(0, 1), (1, 1), (2, 1)] (by kernel_rfl) ?_
            refine wpS_this [0, 1, 2] rfl (by kernel_rfl) (by simp only [pickL, nthL, List.cons_append, List.nil_append]; rfl) ?_
            repeat (go_big_quiet_step (fail))
            refine wpQuiet_nil ?_
            refine wpS_nil ?_
            refine then_normal ?_
            refine wp_cond_false rfl ?_
            refine wp_skip ?_
            refine block_normal ?_
            refine then_normal ?_
            refine wp_region_N [(0, 1), (1, 1)] (by kernel_rfl) ?_
            refine wpS_this [0, 1] rfl (by kernel_rfl) (by simp only [pickL, nthL, List.cons_append, List.nil_append]; rfl) ?_
            repeat (go_big_quiet_step (fail))
            refine wpQuiet_nil ?_
            refine wpS_nil ?_
            refine then_normal ?_
            refine ⟨by kernel_rfl, ?_⟩
            refine ⟨ms.length - (k + 1), by omega, k + 1, _, rfl, rfl, rfl, hk1, ?_⟩
            rw [filter_take _ hx.out, if_neg (by rw [hxn.out]; simp), List.append_nil]
            exact (Mem.only (M := [_, _]) HM22.out [0, 0] rfl)
          · have g1 := hxn
            replace hxn := Lib.hid hxn
            refine wp_region_N [(0, 1), (1, 1), (2, 1)] (by kernel_rfl) ?_
            refine wpS_this [0, 1, 2] rfl (by kernel_rfl) (by simp only [pickL, nthL, List.cons_append, List.nil_append]; rfl) ?_
            repeat (go_big_quiet_step (fail))
            refine wpQuiet_nil ?_
            refine wpS_nil ?_
            refine then_normal ?_
            refine wp_cond_true rfl ?_
            refine wp_region_N [(0, 1), (1, 1), (2, 3), (3, 3), (4, 1)] (by kernel_rfl) ?_
            refine wpS_this [0, 1] rfl (by kernel_rfl) (by simp only [pickL, nthL, List.cons_append, List.nil_append]; rfl) ?_
            repeat (go_big_quiet_step (fail))
            refine wpQuiet_nil ?_
            refine wpS_build1 elemI (i := 2) (dd := 32) (y := x) rfl (by rfl) rfl rfl rfl (by decide) HM22.out covS_nil rfl ?_
            rintro b29 W30 hm31 -
            have HM32 := Lib.hid hm31
            clear hm31
            simp only [Act.put, List.setIfInBounds_toArray, List.set_cons_succ, List.set_cons_zero]
            refine wpS_append (E := elemI) (i := 3) (d := some 33) (L2 := [_, _]) rfl (by rfl) rfl HM32.out 1 rfl rfl ((HM32.out.src 0 rfl rowT_reads)) rfl (by simp only [List.length_cons, List.length_nil]; show _ * 8 ≤ _; omega) rfl covS_nil rfl ?_
            rintro u35 W36 hm37 -
            have HM38 := Lib.hid hm37
            clear hm37
            simp only [Act.put, List.setIfInBounds_toArray, List.set_cons_succ, List.set_cons_zero]
            refine wpS_this [4] rfl (by kernel_rfl) (by simp only [pickL, nthL, List.cons_append, List.nil_append]; rfl) ?_
            repeat (go_big_quiet_step (fail))
            refine wpQuiet_nil ?_
            refine wpS_nil ?_
            refine block_normal ?_
            refine then_normal ?_
            refine wp_region_N [(0, 1), (1, 1)] (by kernel_rfl) ?_
            refine wpS_this [0, 1] rfl (by kernel_rfl) (by simp only [pickL, nthL, List.cons_append, List.nil_append]; rfl) ?_
            repeat (go_big_quiet_step (fail))
            refine wpQuiet_nil ?_
            refine wpS_nil ?_
            refine then_normal ?_
            refine ⟨by kernel_rfl, ?_⟩
            refine ⟨ms.length - (k + 1), by omega, k + 1, _, rfl, rfl, rfl, hk1, ?_⟩
            rw [filter_take _ hx.out, if_pos (by rw [hxn.out])]
            exact (Mem.only (M := [_, _]) HM38.out [0, 1] rfl)
        · have hgeM : Hid (ms.length ≤ k) := Lib.hid (by have : ¬ (k : Int) < (ms.length : Int) := (by simpa using h23); omega)
          clear h23
          refine wp_exit ?_
          refine then_exit (then_exit (block_exit ?_))
          refine then_normal ?_
          refine wp_seq ?_
          refine wp_seq ?_
          have htk : ms.take k = ms := List.take_of_length_le (by have := hgeM.out; omega)
          have hmz := HM22.out
          rw [htk] at hmz hgl
          have HMZ := Lib.hid hmz
          clear hmz htk
          have hone := one_more (ms := ms) (n := (N : Int)) ⟨by omega, by omega⟩
          obtain ⟨R, hR'⟩ : ∃ z, peersOf (ms.filter fun x => x != (N : Int)) (-1) = z := ⟨_, rfl⟩
          obtain ⟨M, hM'⟩ : ∃ z, peersOf ([] ++ (ms.filter fun x => x != (N : Int)) ++ [(N : Int)]) (-1) = z := ⟨_, rfl⟩
          rw [hR', hM'] at hone
          have hRe := Lib.hid hR'
          have hMe := Lib.hid hM'
          clear hR' hM'
          by_cases h0 : R.length = 0
          · have g1 : ((R.length : Int) == 0) = true := beq_iff_eq.2 (by omega)
            have g1' : (R.length == 0) = true := beq_iff_eq.2 h0
            refine wp_region_N [(0, 1), (1, 3), (2, 1), (3, 1)] (by kernel_rfl) ?_
            refine wpS_this [0] rfl (by kernel_rfl) (by simp only [pickL, nthL, List.cons_append, List.nil_append]; rfl) ?_
            repeat (go_big_quiet_step (fail))
            refine wpQuiet_nil ?_
            refine wpS_doesU1 (i := 1) (d := some 36) (rem := [_]) rfl (by rfl) rfl Try.call13 (members_d (rowT elemI _ (ms.filter fun x => x != (N : Int))) _ (ms.filter fun x => x != (N : Int)) rowOwn (by omega)) rfl HMZ.out [0] rfl covS_nil (fun _ => rfl) rfl ?_
            rintro u41 W40 hm39 -
            rw [hRe.out] at hm39
            obtain ⟨rp, rc, rfl⟩ := row_form (Mem.src hm39 0 rfl rowT_reads)
            have HM42 := Lib.hid hm39
            clear hm39
            simp only [Act.put, List.setIfInBounds_toArray, List.set_cons_succ, List.set_cons_zero]
            refine wpS_this [2, 3] rfl (by kernel_rfl) (by simp only [pickL, nthL, List.cons_append, List.nil_append]; rfl) ?_
            repeat (go_big_quiet_step (fail))
            refine wpQuiet_nil ?_
            refine wpS_nil ?_
            refine then_normal ?_
            refine wp_cond_true rfl ?_
            refine wp_seq ?_
            refine wp_region_N [(0, 3), (1, 1)] (by kernel_rfl) ?_
            refine wpS_does0 (i := 0) (d := some 39) (rem := [_, _, _]) (out := [_, _, _]) rfl (by rfl) rfl Try.call11 (awake_d)  HM42.out [] rfl covS_nil rfl rfl ?_
            rintro W44 hm43 -
            have HM45 := Lib.hid hm43
            clear hm43
            simp only [Act.put, List.setIfInBounds_toArray, List.set_cons_succ, List.set_cons_zero]
            refine wpS_this [1] rfl (by kernel_rfl) (by simp only [pickL, nthL, List.cons_append, List.nil_append]; rfl) ?_
            repeat (go_big_quiet_step (fail))
            refine wpQuiet_nil ?_
            refine wpS_nil ?_
            refine then_normal ?_
            refine wp_ret ?_
            refine then_ret ?_
            refine bodyPost_ret (results_tmp rfl _ _ _) rfl ?_
            exact does_ret (Mem.only (M := [_]) HM45.out [2] rfl) rfl rfl
          · have g1 : ((R.length : Int) == 0) = false := beq_eq_false_iff_ne.2 (by omega)
            have g1' : (R.length == 0) = false := beq_eq_false_iff_ne.2 h0
            have hone := Lib.hid (hone fun e => h0 (by rw [e]; rfl))
            refine wp_region_N [(0, 1), (1, 3), (2, 1), (3, 1)] (by kernel_rfl) ?_
            refine wpS_this [0] rfl (by kernel_rfl) (by simp only [pickL, nthL, List.cons_append, List.nil_append]; rfl) ?_
            repeat (go_big_quiet_step (fail))
            refine wpQuiet_nil ?_
            refine wpS_doesU1 (i := 1) (d := some 36) (rem := [_]) rfl (by rfl) rfl Try.call13 (members_d (rowT elemI _ (ms.filter fun x => x != (N : Int))) _ (ms.filter fun x => x != (N : Int)) rowOwn (by omega)) rfl HMZ.out [0] rfl covS_nil (fun _ => rfl) rfl ?_
            rintro u48 W47 hm46 -
            rw [hRe.out] at hm46
            obtain ⟨rp, rc, rfl⟩ := row_form (Mem.src hm46 0 rfl rowT_reads)
            have HM49 := Lib.hid hm46
            clear hm46
            simp only [Act.put, List.setIfInBounds_toArray, List.set_cons_succ, List.set_cons_zero]
            refine wpS_this [2, 3] rfl (by kernel_rfl) (by simp only [pickL, nthL, List.cons_append, List.nil_append]; rfl) ?_
            repeat (go_big_quiet_step (fail))
            refine wpQuiet_nil ?_
            refine wpS_nil ?_
            refine then_normal ?_
            refine wp_cond_false rfl ?_
            refine wp_skip ?_
            refine then_normal ?_
            refine wp_seq ?_
            refine wp_region_N [(0, 1), (1, 3), (2, 1)] (by kernel_rfl) ?_
            refine wpS_this [0] rfl (by kernel_rfl) (by simp only [pickL, nthL, List.cons_append, List.nil_append]; rfl) ?_
            repeat (go_big_quiet_step (fail))
            refine wpQuiet_nil ?_
            refine wpS_doesU2 (i := 1) (d := some 41) (rem := [_, _]) rfl (by rfl) rfl Try.call17 (assign_d (rowT elemI _ (ms.filter fun x => x != (N : Int))) _ _ [] (ms.filter fun x => x != (N : Int)) (rowNil _) rowOwn (by omega)) rfl rfl HM49.out [1] rfl covS_nil (fun _ => rfl) rfl ?_
            rintro u52 W51 hm50 -
            rw [hRe.out] at hm50
            obtain ⟨A, hA'⟩ : ∃ z, assignOf [] R = z := ⟨_, rfl⟩
            rw [hA'] at hm50
            obtain ⟨ap, ac, rfl⟩ := rd_form (Mem.row hm50 0 rfl rdRow_reads)
            have hA := Lib.hid hA'
            clear hA'
            have HM53 := Lib.hid hm50
            clear hm50
            simp only [Act.put, List.setIfInBounds_toArray, List.set_cons_succ, List.set_cons_zero]
            refine wpS_this [2] rfl (by kernel_rfl) (by simp only [pickL, nthL, List.cons_append, List.nil_append]; rfl) ?_
            repeat (go_big_quiet_step (fail))
            refine wpQuiet_nil ?_
            refine wpS_nil ?_
            refine then_normal ?_
            refine wp_seq ?_
            refine wp_region_N [(0, 1), (1, 3), (2, 1), (3, 3), (4, 1), (5, 3), (6, 3), (7, 3), (8, 1)] (by kernel_rfl) ?_
            refine wpS_this [0] rfl (by kernel_rfl) (by simp only [pickL, nthL, List.cons_append, List.nil_append]; rfl) ?_
            repeat (go_big_quiet_step (fail))
            refine wpQuiet_nil ?_
            refine wpS_buildN elemI (i := 1) (dd := 43) (n := 0) (xs := ([] : List Int)) (cs := #[]) rfl (by rfl) (fun _ => by kernel_rfl) rfl rfl HM53.out covS_nil rfl ?_
            rintro b56 W57 hm58 -
            have HM59 := Lib.hid hm58
            clear hm58
            simp only [Act.put, List.setIfInBounds_toArray, List.set_cons_succ, List.set_cons_zero]
            refine wpS_this [2] rfl (by kernel_rfl) (by simp only [pickL, nthL, List.cons_append, List.nil_append]; rfl) ?_
            repeat (go_big_quiet_step (fail))
            refine wpQuiet_nil ?_
            refine wpS_append (E := elemI) (i := 3) (d := some 45) (L2 := [_, _, _, _]) rfl (by rfl) rfl HM59.out 0 rfl rfl ((HM59.out.src 2 rfl rowT_reads)) rfl (by simp only [List.length_nil]; show _ * 8 ≤ _; omega) rfl covS_nil rfl ?_
            rintro u62 W63 hm64 -
            have HM65 := Lib.hid hm64
            clear hm64
            simp only [Act.put, List.setIfInBounds_toArray, List.set_cons_succ, List.set_cons_zero]
            refine wpS_this [4] rfl (by kernel_rfl) (by simp only [pickL, nthL, List.cons_append, List.nil_append]; rfl) ?_
            repeat (go_big_quiet_step (fail))
            refine wpQuiet_nil ?_
            refine wpS_build1 elemI (i := 5) (dd := 47) (y := (N : Int)) rfl (by rfl) rfl rfl rfl (by decide) HM65.out covS_nil rfl ?_
            rintro b68 W69 hm70 -
            have HM71 := Lib.hid hm70
            clear hm70
            simp only [Act.put, List.setIfInBounds_toArray, List.set_cons_succ, List.set_cons_zero]
            refine wpS_append (E := elemI) (i := 6) (d := some 48) (L2 := [_, _, _, _, _]) rfl (by rfl) rfl HM71.out 1 rfl rfl ((HM71.out.src 0 rfl rowT_reads)) rfl (by simp only [List.length_append, List.length_cons, List.length_nil]; show _ * 8 ≤ _; omega) rfl covS_nil rfl ?_
            rintro u74 W75 hm76 -
            have HM77 := Lib.hid hm76
            clear hm76
            simp only [Act.put, List.setIfInBounds_toArray, List.set_cons_succ, List.set_cons_zero]
            refine wpS_doesU2 (i := 7) (d := some 49) (rem := [_, _, _, _]) rfl (by rfl) rfl Try.call17 (DoesU.ofList (assign_d (listT [_, _]) _ _ A ([] ++ (ms.filter fun x => x != (N : Int)) ++ [(N : Int)]) (rowL 0 rfl rdRow_reads) (rowL 1 rfl rowOwn) (by simp only [List.length_append, List.length_cons, List.length_nil]; omega))) rfl rfl HM77.out [2, 0] rfl covS_nil (fun _ => rfl) rfl ?_
            rintro u80 W79 hm78 -
            rw [hMe.out] at hm78
            obtain ⟨B, hB'⟩ : ∃ z, assignOf A M = z := ⟨_, rfl⟩
            rw [hB'] at hm78
            obtain ⟨bp, bc, rfl⟩ := rd_form (Mem.row hm78 0 rfl rdRow_reads)
            have hB := Lib.hid hB'
            clear hB'
            have HM81 := Lib.hid hm78
            clear hm78
            simp only [Act.put, List.setIfInBounds_toArray, List.set_cons_succ, List.set_cons_zero]
            refine wpS_this [8] rfl (by kernel_rfl) (by simp only [pickL, nthL, List.cons_append, List.nil_append]; rfl) ?_
            repeat (go_big_quiet_step (fail))
            refine wpQuiet_nil ?_
            refine wpS_nil ?_
            refine then_normal ?_
            refine wp_seq ?_
            refine wp_region_N [(0, 1), (1, 1), (2, 3), (3, 1)] (by kernel_rfl) ?_
            refine wpS_this [0, 1] rfl (by kernel_rfl) (by simp only [pickL, nthL, List.cons_append, List.nil_append]; rfl) ?_
            repeat (go_big_quiet_step (fail))
            refine wpQuiet_nil ?_
            refine wpS_doesU2 (i := 2) (d := some 52) (rem := [_, _, _, _, _]) rfl (by rfl) rfl Try.call17 (DoesU.ofList (assign_d (listT [_, _]) _ _ B (ms.filter fun x => x != (N : Int)) (rowL 0 rfl rdRow_reads) (rowL 1 rfl rowOwn) (by omega))) rfl rfl HM81.out [0, 3] rfl covS_nil (fun _ => rfl) rfl ?_
            rintro u84 W83 hm82 -
            rw [hRe.out] at hm82
            obtain ⟨C, hC'⟩ : ∃ z, assignOf B R = z := ⟨_, rfl⟩
            rw [hC'] at hm82
            obtain ⟨cp, cc, rfl⟩ := rd_form (Mem.row hm82 0 rfl rdRow_reads)
            have hC := Lib.hid hC'
            clear hC'
            have HM85 := Lib.hid hm82
            clear hm82
            simp only [Act.put, List.setIfInBounds_toArray, List.set_cons_succ, List.set_cons_zero]
            refine wpS_this [3] rfl (by kernel_rfl) (by simp only [pickL, nthL, List.cons_append, List.nil_append]; rfl) ?_
            repeat (go_big_quiet_step (fail))
            refine wpQuiet_nil ?_
            refine wpS_nil ?_
            refine then_normal ?_
            refine wp_seq ?_
            refine wp_seq ?_
            skip
            · have hAA : Hid (Assigned [] R A) := Lib.hid (by rw [← hA.out]; exact assigned hone.out.okR hone.out.ne)
              have hAB : Hid (Assigned A M B) := Lib.hid (by rw [← hB.out]; exact assigned hone.out.okM (ne_of_new hone.out))
              have hAC : Hid (Assigned B R C) := Lib.hid (by rw [← hC.out]; exact assigned hone.out.okR hone.out.ne)
              have hAn := hAA.out.len
              have hBn := hAB.out.len
              have hCn := hAC.out.len
              have gA : ((A.length : Int) != 16) = false := by rw [hAn]; rfl
              have gA' : (A.length != 16) = false := by rw [hAn]; rfl
              replace hAn := Lib.hid hAn
              have gB : ((B.length : Int) != 16) = false := by rw [hBn]; rfl
              have gB' : (B.length != 16) = false := by rw [hBn]; rfl
              replace hBn := Lib.hid hBn
              have gC : ((C.length : Int) != 16) = false := by rw [hCn]; rfl
              have gC' : (C.length != 16) = false := by rw [hCn]; rfl
              replace hCn := Lib.hid hCn
              refine wp_region_N [(0, 1), (1, 1), (2, 1), (3, 1), (4, 1), (5, 1), (6, 1), (7, 1), (8, 1), (9, 1), (10, 1), (11, 1), (12, 1)] (by kernel_rfl) ?_
              refine wpS_this [0, 1, 2, 3, 4, 5, 6, 7, 8, 9, 10, 11, 12] rfl (by kernel_rfl) (by simp only [pickL, nthL, List.cons_append, List.nil_append]; rfl) ?_
              repeat (go_big_quiet_step (fail))
              refine wpQuiet_nil ?_
              refine wpS_nil ?_
              refine then_normal ?_
              refine wp_cond_false rfl ?_
              refine wp_skip ?_
              refine then_normal ?_
              refine wp_seq ?_
              refine wp_seq ?_
              refine wp_region_N [(0, 1), (1, 1), (2, 1)] (by kernel_rfl) ?_
              refine wpS_this [0, 1, 2] rfl (by kernel_rfl) (by simp only [pickL, nthL, List.cons_append, List.nil_append]; rfl) ?_
              repeat (go_big_quiet_step (fail))
              refine wpQuiet_nil ?_
              refine wpS_nil ?_
              refine then_normal ?_
              refine wp_block ?_
              refine wp_loop_F [4, 11, 68, 69, 70, 71, 72, 73, 74, 75, 76, 77, 78, 79, 80, 81, 82, 83, 84, 85, 86, 87, 88, 89, 90, 91, 92, 93, 94, 95, 96, 97, 98, 99, 100, 101, 102, 103, 104, 105, 106, 107, 108, 109, 110, 111, 112, 113, 114, 115] (fun n ws W' => ∃ p : Nat, n = A.length - p ∧ ws 68 = .int .i64 (p : Int) ∧ p ≤ A.length ∧ Mem [rdRow (.slice cp C.length cc) C, rdRow (.slice bp B.length bc) B, rdRow (.slice ap A.length ac) A, oldT W0] H w W') (n0 := A.length) ?_ ?_
              · exact ⟨0, rfl, rfl, Nat.zero_le _, (Mem.only (M := [_, _, _, _]) HM85.out [0, 0, 1, 4] rfl)⟩
              rintro n ws W' ⟨p, rfl, e68, hp, hmm2⟩
              simp only [putAll, List.map_cons, List.map_nil, Act.put, List.setIfInBounds_toArray, List.set_cons_succ, List.set_cons_zero]
              rw [e68]
              clear e68
              have hp16 : p ≤ 16 := by have := hAn.out; omega
              have HM86 := Lib.hid hmm2
              clear hmm2
              refine wp_seq ?_
              refine wp_region_N [(0, 1)] (by kernel_rfl) ?_
              refine wpS_this [0] rfl (by kernel_rfl) (by simp only [pickL, nthL, List.cons_append, List.nil_append]; rfl) ?_
              repeat (go_big_quiet_step (fail))
              refine wpQuiet_nil ?_
              refine wpS_nil ?_
              refine then_normal ?_
              refine wp_seq ?_
              refine wp_cond_split rfl (fun h87 => ?_) (fun h87 => ?_)
              · have hp1 : p + 1 ≤ A.length := by have : (p : Int) < ((A.length : Nat) : Int) := (by simpa using h87); omega
                clear h87
                obtain ⟨x, hx'⟩ : ∃ y, A[p]? = some y := ⟨_, List.getElem?_eq_getElem (by have := hAn.out; have := hAn.out; omega)⟩
                obtain ⟨y, hy'⟩ : ∃ y, B[p]? = some y := ⟨_, List.getElem?_eq_getElem (by have := hBn.out; have := hAn.out; omega)⟩
                obtain ⟨z, hz'⟩ : ∃ y, C[p]? = some y := ⟨_, List.getElem?_eq_getElem (by have := hCn.out; have := hAn.out; omega)⟩
                have hcg := come_go hone.out hAA.out hAB.out hAC.out (p := p) (by have := hAn.out; omega)
                rw [atL_of hx', atL_of hy', atL_of hz'] at hcg
                have hx := Lib.hid hx'
                clear hx'
                have hy := Lib.hid hy'
                clear hy'
                have hz := Lib.hid hz'
                clear hz'
                refine wp_skip ?_
                refine then_normal ?_
                refine wp_seq ?_
                refine wp_block ?_
                refine wp_seq ?_
                refine wp_region_N [(0, 1), (1, 1)] (by kernel_rfl) ?_
                refine wpS_this [0, 1] rfl (by kernel_rfl) (by simp only [pickL, nthL, List.cons_append, List.nil_append]; rfl) ?_
                repeat (go_big_quiet_step (fail))
                refine wpQuiet_nil ?_
                refine wpS_nil ?_
                refine then_normal ?_
                refine wp_seq ?_
                obtain ⟨hxy, hyz, hzn⟩ := hcg
                rcases (show (x = y ∧ y = z) ∨ (x = y ∧ y ≠ z) ∨ (x ≠ y ∧ y ≠ z) from by by_cases h1 : x = y <;> by_cases h2 : y = z <;> simp [h1, h2]; exact absurd ((h2.symm.trans (hxy h1))) hzn) with ⟨hg2, hg3⟩ | ⟨hg2, hg3⟩ | ⟨hg2, hg3⟩
                · have gz : (z == (N : Int)) = false := beq_eq_false_iff_ne.2 hzn
                  have g2 : (x != y) = false := bne_eq_false_iff_eq.2 hg2
                  have g3 : (y != z) = false := bne_eq_false_iff_eq.2 hg3
                  clear hg2 hg3 hxy hyz hzn
                  refine wp_region_M (fun k => k ∈ ([] : List Nat)) [(0, 1), (1, 1), (2, 1), (3, 1), (4, 1), (5, 1), (6, 1), (7, 1), (8, 1), (9, 1), (10, 1), (11, 1), (12, 1), (13, 1), (14, 1), (15, 1), (16, 1), (17, 1), (18, 1), (19, 1), (20, 1), (21, 1), (22, 1), (23, 1), (24, 1), (25, 1), (26, 1), (27, 1), (28, 1), (29, 1), (30, 1), (31, 1), (32, 1), (33, 1), (34, 1), (35, 1), (36, 1), (37, 1), (38, 1), (39, 1), (40, 1), (41, 1), (42, 1), (43, 1)] (by kernel_rfl) (by kernel_rfl) HM86.out ?_
                  intro W88 hm89
                  have HM90 := Lib.hid hm89
                  clear hm89
                  refine wpS_this [0, 1] rfl (by kernel_rfl) (by simp only [pickL, nthL, List.cons_append, List.nil_append]; rfl) ?_
                  repeat (go_big_quiet_step (fail))
                  refine wpQuiet_nil ?_
                  refine wpS_index (E := elemI) (i := 2) (d := some 73) rfl (by rfl) rfl rfl rfl (HM90.out.row 2 rfl rdRow_reads) (hx.out) rfl ?_
                  intro eb91 eo92 hc93
                  simp only [Act.put, List.setIfInBounds_toArray, List.set_cons_succ, List.set_cons_zero]
                  refine wpS_load1 (i := 3) (d := some 74) (u := .int .i64 x) rfl (by rfl) rfl rfl (hc93 0 _ rfl) Try.underlying3 rfl rfl ?_
                  simp only [Act.put, List.setIfInBounds_toArray, List.set_cons_succ, List.set_cons_zero]
                  refine wpS_this [4, 5] rfl (by kernel_rfl) (by simp only [pickL, nthL, List.cons_append, List.nil_append]; rfl) ?_
                  repeat (go_big_quiet_step (fail))
                  refine wpQuiet_nil ?_
                  refine wpS_index (E := elemI) (i := 6) (d := some 77) rfl (by rfl) rfl rfl rfl (HM90.out.row 1 rfl rdRow_reads) (hy.out) rfl ?_
                  intro eb94 eo95 hc96
                  simp only [Act.put, List.setIfInBounds_toArray, List.set_cons_succ, List.set_cons_zero]
                  refine wpS_load1 (i := 7) (d := some 78) (u := .int .i64 y) rfl (by rfl) rfl rfl (hc96 0 _ rfl) Try.underlying3 rfl rfl ?_
                  simp only [Act.put, List.setIfInBounds_toArray, List.set_cons_succ, List.set_cons_zero]
                  refine wpS_this [8, 9, 10, 11] rfl (by kernel_rfl) (by simp only [pickL, nthL, List.cons_append, List.nil_append]; rfl) ?_
                  repeat (go_big_quiet_step (fail))
                  refine wpQuiet_nil ?_
                  refine wpS_skip (i := 12) (d := some 83) rfl (by rfl) rfl ?_
                  simp only [Act.put, List.setIfInBounds_toArray, List.set_cons_succ, List.set_cons_zero]
                  refine wpS_skip (i := 13) (d := some 84) rfl (by rfl) rfl ?_
                  simp only [Act.put, List.setIfInBounds_toArray, List.set_cons_succ, List.set_cons_zero]
                  refine wpS_this [14, 15, 16, 17, 18, 19] rfl (by kernel_rfl) (by simp only [pickL, nthL, List.cons_append, List.nil_append]; rfl) ?_
                  repeat (go_big_quiet_step (fail))
                  refine wpQuiet_nil ?_
                  refine wpS_index (E := elemI) (i := 20) (d := some 91) rfl (by rfl) rfl rfl rfl (HM90.out.row 1 rfl rdRow_reads) (hy.out) rfl ?_
                  intro eb97 eo98 hc99
                  simp only [Act.put, List.setIfInBounds_toArray, List.set_cons_succ, List.set_cons_zero]
                  refine wpS_load1 (i := 21) (d := some 92) (u := .int .i64 y) rfl (by rfl) rfl rfl (hc99 0 _ rfl) Try.underlying3 rfl rfl ?_
                  simp only [Act.put, List.setIfInBounds_toArray, List.set_cons_succ, List.set_cons_zero]
                  refine wpS_this [22, 23] rfl (by kernel_rfl) (by simp only [pickL, nthL, List.cons_append, List.nil_append]; rfl) ?_
                  repeat (go_big_quiet_step (fail))
                  refine wpQuiet_nil ?_
                  refine wpS_index (E := elemI) (i := 24) (d := some 95) rfl (by rfl) rfl rfl rfl (HM90.out.row 0 rfl rdRow_reads) (hz.out) rfl ?_
                  intro eb100 eo101 hc102
                  simp only [Act.put, List.setIfInBounds_toArray, List.set_cons_succ, List.set_cons_zero]
                  refine wpS_load1 (i := 25) (d := some 96) (u := .int .i64 z) rfl (by rfl) rfl rfl (hc102 0 _ rfl) Try.underlying3 rfl rfl ?_
                  simp only [Act.put, List.setIfInBounds_toArray, List.set_cons_succ, List.set_cons_zero]
                  refine wpS_this [26, 27, 28, 29] rfl (by kernel_rfl) (by simp only [pickL, nthL, List.cons_append, List.nil_append]; rfl) ?_
                  repeat (go_big_quiet_step (fail))
                  refine wpQuiet_nil ?_
                  refine wpS_skip (i := 30) (d := some 101) rfl (by rfl) rfl ?_
                  simp only [Act.put, List.setIfInBounds_toArray, List.set_cons_succ, List.set_cons_zero]
                  refine wpS_skip (i := 31) (d := some 102) rfl (by rfl) rfl ?_
                  simp only [Act.put, List.setIfInBounds_toArray, List.set_cons_succ, List.set_cons_zero]
                  refine wpS_this [32, 33, 34, 35, 36, 37, 38] rfl (by kernel_rfl) (by simp only [pickL, nthL, List.cons_append, List.nil_append]; rfl) ?_
                  repeat (go_big_quiet_step (fail))
                  refine wpQuiet_nil ?_
                  refine wpS_index (E := elemI) (i := 39) (d := some 110) rfl (by rfl) rfl rfl rfl (HM90.out.row 0 rfl rdRow_reads) (hz.out) rfl ?_
                  intro eb103 eo104 hc105
                  simp only [Act.put, List.setIfInBounds_toArray, List.set_cons_succ, List.set_cons_zero]
                  refine wpS_load1 (i := 40) (d := some 111) (u := .int .i64 z) rfl (by rfl) rfl rfl (hc105 0 _ rfl) Try.underlying3 rfl rfl ?_
                  simp only [Act.put, List.setIfInBounds_toArray, List.set_cons_succ, List.set_cons_zero]
                  refine wpS_this [41, 42, 43] rfl (by kernel_rfl) (by simp only [pickL, nthL, List.cons_append, List.nil_append]; rfl) ?_
                  repeat (go_big_quiet_step (fail))
                  refine wpQuiet_nil ?_
                  refine wpS_nil ?_
                  refine then_normal ?_
                  refine wp_cond_false rfl ?_
                  refine wp_skip ?_
                  refine block_normal ?_
                  refine then_normal ?_
                  refine wp_region_N [(0, 1), (1, 1)] (by kernel_rfl) ?_
                  refine wpS_this [0, 1] rfl (by kernel_rfl) (by simp only [pickL, nthL, List.cons_append, List.nil_append]; rfl) ?_
                  repeat (go_big_quiet_step (fail))
                  refine wpQuiet_nil ?_
                  refine wpS_nil ?_
                  refine then_normal ?_
                  refine ⟨by kernel_rfl, ?_⟩
                  exact ⟨A.length - (p + 1), by omega, p + 1, rfl, rfl, hp1, (Mem.only (M := [_, _, _, _]) HM90.out [0, 0, 0, 0] rfl)⟩
                · have gz : (z == (N : Int)) = false := beq_eq_false_iff_ne.2 hzn
                  have g2 : (x != y) = false := bne_eq_false_iff_eq.2 hg2
                  have g3 : (y != z) = true := bne_iff_ne.2 hg3
                  have g4 : (y != (N : Int)) = false := bne_eq_false_iff_eq.2 (hyz hg3)
                  clear hg2 hg3 hxy hyz hzn
                  refine wp_region_M (fun k => k ∈ ([] : List Nat)) [(0, 1), (1, 1), (2, 1), (3, 1), (4, 1), (5, 1), (6, 1), (7, 1), (8, 1), (9, 1), (10, 1), (11, 1), (12, 1), (13, 1), (14, 1), (15, 1), (16, 1), (17, 1), (18, 1), (19, 1), (20, 1), (21, 1), (22, 1), (23, 1), (24, 1), (25, 1), (26, 1), (27, 1), (28, 1), (29, 1), (30, 1), (31, 1), (32, 1), (33, 1), (34, 1), (35, 1), (36, 1), (37, 1), (38, 1), (39, 1), (40, 1), (41, 1), (42, 1), (43, 1)] (by kernel_rfl) (by kernel_rfl) HM86.out ?_
                  intro W106 hm107
                  have HM108 := Lib.hid hm107
                  clear hm107
                  refine wpS_this [0, 1] rfl (by kernel_rfl) (by simp only [pickL, nthL, List.cons_append, List.nil_append]; rfl) ?_
                  repeat (go_big_quiet_step (fail))
                  refine wpQuiet_nil ?_
                  refine wpS_index (E := elemI) (i := 2) (d := some 73) rfl (by rfl) rfl rfl rfl (HM108.out.row 2 rfl rdRow_reads) (hx.out) rfl ?_
                  intro eb109 eo110 hc111
                  simp only [Act.put, List.setIfInBounds_toArray, List.set_cons_succ, List.set_cons_zero]
                  refine wpS_load1 (i := 3) (d := some 74) (u := .int .i64 x) rfl (by rfl) rfl rfl (hc111 0 _ rfl) Try.underlying3 rfl rfl ?_
                  simp only [Act.put, List.setIfInBounds_toArray, List.set_cons_succ, List.set_cons_zero]
                  refine wpS_this [4, 5] rfl (by kernel_rfl) (by simp only [pickL, nthL, List.cons_append, List.nil_append]; rfl) ?_
                  repeat (go_big_quiet_step (fail))
                  refine wpQuiet_nil ?_
                  refine wpS_index (E := elemI) (i := 6) (d := some 77) rfl (by rfl) rfl rfl rfl (HM108.out.row 1 rfl rdRow_reads) (hy.out) rfl ?_
                  intro eb112 eo113 hc114
                  simp only [Act.put, List.setIfInBounds_toArray, List.set_cons_succ, List.set_cons_zero]
                  refine wpS_load1 (i := 7) (d := some 78) (u := .int .i64 y) rfl (by rfl) rfl rfl (hc114 0 _ rfl) Try.underlying3 rfl rfl ?_
                  simp only [Act.put, List.setIfInBounds_toArray, List.set_cons_succ, List.set_cons_zero]
                  refine wpS_this [8, 9, 10, 11] rfl (by kernel_rfl) (by simp only [pickL, nthL, List.cons_append, List.nil_append]; rfl) ?_
                  repeat (go_big_quiet_step (fail))
                  refine wpQuiet_nil ?_
                  refine wpS_skip (i := 12) (d := some 83) rfl (by rfl) rfl ?_
                  simp only [Act.put, List.setIfInBounds_toArray, List.set_cons_succ, List.set_cons_zero]
                  refine wpS_skip (i := 13) (d := some 84) rfl (by rfl) rfl ?_
                  simp only [Act.put, List.setIfInBounds_toArray, List.set_cons_succ, List.set_cons_zero]
                  refine wpS_this [14, 15, 16, 17, 18, 19] rfl (by kernel_rfl) (by simp only [pickL, nthL, List.cons_append, List.nil_append]; rfl) ?_
                  repeat (go_big_quiet_step (fail))
                  refine wpQuiet_nil ?_
                  refine wpS_index (E := elemI) (i := 20) (d := some 91) rfl (by rfl) rfl rfl rfl (HM108.out.row 1 rfl rdRow_reads) (hy.out) rfl ?_
                  intro eb115 eo116 hc117
                  simp only [Act.put, List.setIfInBounds_toArray, List.set_cons_succ, List.set_cons_zero]
                  refine wpS_load1 (i := 21) (d := some 92) (u := .int .i64 y) rfl (by rfl) rfl rfl (hc117 0 _ rfl) Try.underlying3 rfl rfl ?_
                  simp only [Act.put, List.setIfInBounds_toArray, List.set_cons_succ, List.set_cons_zero]
                  refine wpS_this [22, 23] rfl (by kernel_rfl) (by simp only [pickL, nthL, List.cons_append, List.nil_append]; rfl) ?_
                  repeat (go_big_quiet_step (fail))
                  refine wpQuiet_nil ?_
                  refine wpS_index (E := elemI) (i := 24) (d := some 95) rfl (by rfl) rfl rfl rfl (HM108.out.row 0 rfl rdRow_reads) (hz.out) rfl ?_
                  intro eb118 eo119 hc120
                  simp only [Act.put, List.setIfInBounds_toArray, List.set_cons_succ, List.set_cons_zero]
                  refine wpS_load1 (i := 25) (d := some 96) (u := .int .i64 z) rfl (by rfl) rfl rfl (hc120 0 _ rfl) Try.underlying3 rfl rfl ?_
                  simp only [Act.put, List.setIfInBounds_toArray, List.set_cons_succ, List.set_cons_zero]
                  refine wpS_this [26, 27, 28, 29] rfl (by kernel_rfl) (by simp only [pickL, nthL, List.cons_append, List.nil_append]; rfl) ?_
                  repeat (go_big_quiet_step (fail))
                  refine wpQuiet_nil ?_
                  refine wpS_index (E := elemI) (i := 30) (d := some 101) rfl (by rfl) rfl rfl rfl (HM108.out.row 1 rfl rdRow_reads) (hy.out) rfl ?_
                  intro eb121 eo122 hc123
                  simp only [Act.put, List.setIfInBounds_toArray, List.set_cons_succ, List.set_cons_zero]
                  refine wpS_load1 (i := 31) (d := some 102) (u := .int .i64 y) rfl (by rfl) rfl rfl (hc123 0 _ rfl) Try.underlying3 rfl rfl ?_
                  simp only [Act.put, List.setIfInBounds_toArray, List.set_cons_succ, List.set_cons_zero]
                  refine wpS_this [32, 33, 34, 35, 36, 37, 38] rfl (by kernel_rfl) (by simp only [pickL, nthL, List.cons_append, List.nil_append]; rfl) ?_
                  repeat (go_big_quiet_step (fail))
                  refine wpQuiet_nil ?_
                  refine wpS_index (E := elemI) (i := 39) (d := some 110) rfl (by rfl) rfl rfl rfl (HM108.out.row 0 rfl rdRow_reads) (hz.out) rfl ?_
                  intro eb124 eo125 hc126
                  simp only [Act.put, List.setIfInBounds_toArray, List.set_cons_succ, List.set_cons_zero]
                  refine wpS_load1 (i := 40) (d := some 111) (u := .int .i64 z) rfl (by rfl) rfl rfl (hc126 0 _ rfl) Try.underlying3 rfl rfl ?_
                  simp only [Act.put, List.setIfInBounds_toArray, List.set_cons_succ, List.set_cons_zero]
                  refine wpS_this [41, 42, 43] rfl (by kernel_rfl) (by simp only [pickL, nthL, List.cons_append, List.nil_append]; rfl) ?_
                  repeat (go_big_quiet_step (fail))
                  refine wpQuiet_nil ?_
                  refine wpS_nil ?_
                  refine then_normal ?_
                  refine wp_cond_false rfl ?_
                  refine wp_skip ?_
                  refine block_normal ?_
                  refine then_normal ?_
                  refine wp_region_N [(0, 1), (1, 1)] (by kernel_rfl) ?_
                  refine wpS_this [0, 1] rfl (by kernel_rfl) (by simp only [pickL, nthL, List.cons_append, List.nil_append]; rfl) ?_
                  repeat (go_big_quiet_step (fail))
                  refine wpQuiet_nil ?_
                  refine wpS_nil ?_
                  refine then_normal ?_
                  refine ⟨by kernel_rfl, ?_⟩
                  exact ⟨A.length - (p + 1), by omega, p + 1, rfl, rfl, hp1, (Mem.only (M := [_, _, _, _]) HM108.out [0, 0, 0, 0] rfl)⟩
                · have gz : (z == (N : Int)) = false := beq_eq_false_iff_ne.2 hzn
                  have g2 : (x != y) = true := bne_iff_ne.2 hg2
                  have g3 : (y != z) = true := bne_iff_ne.2 hg3
                  have g4 : (y != (N : Int)) = false := bne_eq_false_iff_eq.2 (hyz hg3)
                  clear hg2 hg3 hxy hyz hzn
                  refine wp_region_M (fun k => k ∈ ([] : List Nat)) [(0, 1), (1, 1), (2, 1), (3, 1), (4, 1), (5, 1), (6, 1), (7, 1), (8, 1), (9, 1), (10, 1), (11, 1), (12, 1), (13, 1), (14, 1), (15, 1), (16, 1), (17, 1), (18, 1), (19, 1), (20, 1), (21, 1), (22, 1), (23, 1), (24, 1), (25, 1), (26, 1), (27, 1), (28, 1), (29, 1), (30, 1), (31, 1), (32, 1), (33, 1), (34, 1), (35, 1), (36, 1), (37, 1), (38, 1), (39, 1), (40, 1), (41, 1), (42, 1), (43, 1)] (by kernel_rfl) (by kernel_rfl) HM86.out ?_
                  intro W127 hm128
                  have HM129 := Lib.hid hm128
                  clear hm128
                  refine wpS_this [0, 1] rfl (by kernel_rfl) (by simp only [pickL, nthL, List.cons_append, List.nil_append]; rfl) ?_
                  repeat (go_big_quiet_step (fail))
                  refine wpQuiet_nil ?_
                  refine wpS_index (E := elemI) (i := 2) (d := some 73) rfl (by rfl) rfl rfl rfl (HM129.out.row 2 rfl rdRow_reads) (hx.out) rfl ?_
                  intro eb130 eo131 hc132
                  simp only [Act.put, List.setIfInBounds_toArray, List.set_cons_succ, List.set_cons_zero]
                  refine wpS_load1 (i := 3) (d := some 74) (u := .int .i64 x) rfl (by rfl) rfl rfl (hc132 0 _ rfl) Try.underlying3 rfl rfl ?_
                  simp only [Act.put, List.setIfInBounds_toArray, List.set_cons_succ, List.set_cons_zero]
                  refine wpS_this [4, 5] rfl (by kernel_rfl) (by simp only [pickL, nthL, List.cons_append, List.nil_append]; rfl) ?_
                  repeat (go_big_quiet_step (fail))
                  refine wpQuiet_nil ?_
                  refine wpS_index (E := elemI) (i := 6) (d := some 77) rfl (by rfl) rfl rfl rfl (HM129.out.row 1 rfl rdRow_reads) (hy.out) rfl ?_
                  intro eb133 eo134 hc135
                  simp only [Act.put, List.setIfInBounds_toArray, List.set_cons_succ, List.set_cons_zero]
                  refine wpS_load1 (i := 7) (d := some 78) (u := .int .i64 y) rfl (by rfl) rfl rfl (hc135 0 _ rfl) Try.underlying3 rfl rfl ?_
                  simp only [Act.put, List.setIfInBounds_toArray, List.set_cons_succ, List.set_cons_zero]
                  refine wpS_this [8, 9, 10, 11] rfl (by kernel_rfl) (by simp only [pickL, nthL, List.cons_append, List.nil_append]; rfl) ?_
                  repeat (go_big_quiet_step (fail))
                  refine wpQuiet_nil ?_
                  refine wpS_index (E := elemI) (i := 12) (d := some 83) rfl (by rfl) rfl rfl rfl (HM129.out.row 1 rfl rdRow_reads) (hy.out) rfl ?_
                  intro eb136 eo137 hc138
                  simp only [Act.put, List.setIfInBounds_toArray, List.set_cons_succ, List.set_cons_zero]
                  refine wpS_load1 (i := 13) (d := some 84) (u := .int .i64 y) rfl (by rfl) rfl rfl (hc138 0 _ rfl) Try.underlying3 rfl rfl ?_
                  simp only [Act.put, List.setIfInBounds_toArray, List.set_cons_succ, List.set_cons_zero]
                  refine wpS_this [14, 15, 16, 17, 18, 19] rfl (by kernel_rfl) (by simp only [pickL, nthL, List.cons_append, List.nil_append]; rfl) ?_
                  repeat (go_big_quiet_step (fail))
                  refine wpQuiet_nil ?_
                  refine wpS_index (E := elemI) (i := 20) (d := some 91) rfl (by rfl) rfl rfl rfl (HM129.out.row 1 rfl rdRow_reads) (hy.out) rfl ?_
                  intro eb139 eo140 hc141
                  simp only [Act.put, List.setIfInBounds_toArray, List.set_cons_succ, List.set_cons_zero]
                  refine wpS_load1 (i := 21) (d := some 92) (u := .int .i64 y) rfl (by rfl) rfl rfl (hc141 0 _ rfl) Try.underlying3 rfl rfl ?_
                  simp only [Act.put, List.setIfInBounds_toArray, List.set_cons_succ, List.set_cons_zero]
                  refine wpS_this [22, 23] rfl (by kernel_rfl) (by simp only [pickL, nthL, List.cons_append, List.nil_append]; rfl) ?_
                  repeat (go_big_quiet_step (fail))
                  refine wpQuiet_nil ?_
                  refine wpS_index (E := elemI) (i := 24) (d := some 95) rfl (by rfl) rfl rfl rfl (HM129.out.row 0 rfl rdRow_reads) (hz.out) rfl ?_
                  intro eb142 eo143 hc144
                  simp only [Act.put, List.setIfInBounds_toArray, List.set_cons_succ, List.set_cons_zero]
                  refine wpS_load1 (i := 25) (d := some 96) (u := .int .i64 z) rfl (by rfl) rfl rfl (hc144 0 _ rfl) Try.underlying3 rfl rfl ?_
                  simp only [Act.put, List.setIfInBounds_toArray, List.set_cons_succ, List.set_cons_zero]
                  refine wpS_this [26, 27, 28, 29] rfl (by kernel_rfl) (by simp only [pickL, nthL, List.cons_append, List.nil_append]; rfl) ?_
                  repeat (go_big_quiet_step (fail))
                  refine wpQuiet_nil ?_
                  refine wpS_index (E := elemI) (i := 30) (d := some 101) rfl (by rfl) rfl rfl rfl (HM129.out.row 1 rfl rdRow_reads) (hy.out) rfl ?_
                  intro eb145 eo146 hc147
                  simp only [Act.put, List.setIfInBounds_toArray, List.set_cons_succ, List.set_cons_zero]
                  refine wpS_load1 (i := 31) (d := some 102) (u := .int .i64 y) rfl (by rfl) rfl rfl (hc147 0 _ rfl) Try.underlying3 rfl rfl ?_
                  simp only [Act.put, List.setIfInBounds_toArray, List.set_cons_succ, List.set_cons_zero]
                  refine wpS_this [32, 33, 34, 35, 36, 37, 38] rfl (by kernel_rfl) (by simp only [pickL, nthL, List.cons_append, List.nil_append]; rfl) ?_
                  repeat (go_big_quiet_step (fail))
                  refine wpQuiet_nil ?_
                  refine wpS_index (E := elemI) (i := 39) (d := some 110) rfl (by rfl) rfl rfl rfl (HM129.out.row 0 rfl rdRow_reads) (hz.out) rfl ?_
                  intro eb148 eo149 hc150
                  simp only [Act.put, List.setIfInBounds_toArray, List.set_cons_succ, List.set_cons_zero]
                  refine wpS_load1 (i := 40) (d := some 111) (u := .int .i64 z) rfl (by rfl) rfl rfl (hc150 0 _ rfl) Try.underlying3 rfl rfl ?_
                  simp only [Act.put, List.setIfInBounds_toArray, List.set_cons_succ, List.set_cons_zero]
                  refine wpS_this [41, 42, 43] rfl (by kernel_rfl) (by simp only [pickL, nthL, List.cons_append, List.nil_append]; rfl) ?_
                  repeat (go_big_quiet_step (fail))
                  refine wpQuiet_nil ?_
                  refine wpS_nil ?_
                  refine then_normal ?_
                  refine wp_cond_false rfl ?_
                  refine wp_skip ?_
                  refine block_normal ?_
                  refine then_normal ?_
                  refine wp_region_N [(0, 1), (1, 1)] (by kernel_rfl) ?_
                  refine wpS_this [0, 1] rfl (by kernel_rfl) (by simp only [pickL, nthL, List.cons_append, List.nil_append]; rfl) ?_
                  repeat (go_big_quiet_step (fail))
                  refine wpQuiet_nil ?_
                  refine wpS_nil ?_
                  refine then_normal ?_
                  refine ⟨by kernel_rfl, ?_⟩
                  exact ⟨A.length - (p + 1), by omega, p + 1, rfl, rfl, hp1, (Mem.only (M := [_, _, _, _]) HM129.out [0, 0, 0, 0] rfl)⟩
              · clear h87
                refine wp_exit ?_
                refine then_exit (then_exit (block_exit ?_))
                refine then_normal ?_
                refine wp_seq ?_
                refine wp_region_N [(0, 3), (1, 1)] (by kernel_rfl) ?_
                refine wpS_does0 (i := 0) (d := some 116) (rem := [_, _, _, _]) (out := [_, _, _, _]) rfl (by rfl) rfl Try.call11 (awake_d)  HM86.out [] rfl covS_nil rfl rfl ?_
                rintro W152 hm151 -
                have HM153 := Lib.hid hm151
                clear hm151
                simp only [Act.put, List.setIfInBounds_toArray, List.set_cons_succ, List.set_cons_zero]
                refine wpS_this [1] rfl (by kernel_rfl) (by simp only [pickL, nthL, List.cons_append, List.nil_append]; rfl) ?_
                repeat (go_big_quiet_step (fail))
                refine wpQuiet_nil ?_
                refine wpS_nil ?_
                refine then_normal ?_
                refine wp_ret ?_
                refine bodyPost_ret (results_tmp rfl _ _ _) rfl ?_
                exact does_ret (Mem.only (M := [_]) HM153.out [3] rfl) rfl rfl

end Go.Proofs.Ytagpbmgeikjnjaa
