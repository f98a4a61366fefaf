/- ClaimNew: its walk. -/
import Derived.Test.YtagpbmgeikjnjaaClmO
namespace Go.Proofs.Ytagpbmgeikjnjaa
open Go Go.RowKit Go.BigFrame

set_option maxHeartbeats 4000000 in
set_option maxRecDepth 100000 in
theorem new_d (W0 : World) (vms : Value) (ms : List Int) (hms : RowAt elemI W0 vms ms) : Does Try.prog 8 #[vms] [oldT W0] (.bool true) [oldT W0] := by
  intro w H hp
  have HM0 := Lib.hid (mem_refl hp)
  clear hp
  obtain ⟨pms, cms, rfl⟩ := rd_form hms
  go_enter Try.func8, Try.ntmps8
  refine wp_seq ?_
  refine wp_region_N [(0, 1)] (by kernel_rfl) ?_
  refine wpS_this [0] rfl (by kernel_rfl) (by simp only [pickL, nthL, List.cons_append, List.nil_append]; rfl) ?_
  repeat (go_big_quiet_step (fail))
  refine wpQuiet_nil ?_
  refine wpS_nil ?_
  refine then_normal ?_
  refine wp_seq ?_
  refine wp_seq ?_
  cases hfw : fewB [⟨pms, ms.length, cms⟩]
  · skip
    refine wp_region_N [(0, 1), (1, 3), (2, 3), (3, 1)] (by kernel_rfl) ?_
    refine wpS_this [0] rfl (by kernel_rfl) (by simp only [pickL, nthL, List.cons_append, List.nil_append]; rfl) ?_
    repeat (go_big_quiet_step (fail))
    refine wpQuiet_nil ?_
    refine wpS_buildN elemS (i := 1) (dd := 7) (n := 1) (xs := [⟨pms, ms.length, cms⟩]) (cs := #[.slice pms ms.length cms]) rfl (by rfl) (fun _ => by kernel_rfl) rfl rfl HM0.out covS_nil rfl ?_
    rintro b3 W4 hm5 -
    have HM6 := Lib.hid hm5
    clear hm5
    simp only [Act.put, List.setIfInBounds_toArray, List.set_cons_succ, List.set_cons_zero]
    refine wpS_does1 (i := 2) (d := some 8) (rem := [_]) (out := [_, _]) rfl (by rfl) rfl Try.call10 (few_d (rowT elemS _ _) _ [⟨pms, ms.length, cms⟩] rowS (by simp)) rfl HM6.out [0] rfl covS_nil rfl rfl ?_
    rintro W8 hm7 -
    rw [hfw]
    have HM9 := Lib.hid hm7
    clear hm7
    simp only [Act.put, List.setIfInBounds_toArray, List.set_cons_succ, List.set_cons_zero]
    refine wpS_this [3] rfl (by kernel_rfl) (by simp only [pickL, nthL, List.cons_append, List.nil_append]; rfl) ?_
    repeat (go_big_quiet_step (fail))
    refine wpQuiet_nil ?_
    refine wpS_nil ?_
    refine then_normal ?_
    refine wp_cond_true rfl ?_
    refine wp_seq ?_
    refine wp_region_N [(0, 3), (1, 1)] (by kernel_rfl) ?_
    refine wpS_does0 (i := 0) (d := some 10) (rem := [_, _]) (out := [_, _]) rfl (by rfl) rfl Try.call11 (awake_d)  HM9.out [] rfl covS_nil rfl rfl ?_
    rintro W11 hm10 -
    have HM12 := Lib.hid hm10
    clear hm10
    simp only [Act.put, List.setIfInBounds_toArray, List.set_cons_succ, List.set_cons_zero]
    refine wpS_this [1] rfl (by kernel_rfl) (by simp only [pickL, nthL, List.cons_append, List.nil_append]; rfl) ?_
    repeat (go_big_quiet_step (fail))
    refine wpQuiet_nil ?_
    refine wpS_nil ?_
    refine then_normal ?_
    refine wp_ret ?_
    refine then_ret ?_
    refine bodyPost_ret (results_tmp rfl _ _ _) rfl ?_
    exact does_ret (Mem.only (M := [_]) HM12.out [1] rfl) rfl rfl
  · have hbb : ms.length ≤ 100 := by simpa [fewB] using hfw
    have hbms := hbb
    refine wp_region_N [(0, 1), (1, 3), (2, 3), (3, 1)] (by kernel_rfl) ?_
    refine wpS_this [0] rfl (by kernel_rfl) (by simp only [pickL, nthL, List.cons_append, List.nil_append]; rfl) ?_
    repeat (go_big_quiet_step (fail))
    refine wpQuiet_nil ?_
    refine wpS_buildN elemS (i := 1) (dd := 7) (n := 1) (xs := [⟨pms, ms.length, cms⟩]) (cs := #[.slice pms ms.length cms]) rfl (by rfl) (fun _ => by kernel_rfl) rfl rfl HM0.out covS_nil rfl ?_
    rintro b15 W16 hm17 -
    have HM18 := Lib.hid hm17
    clear hm17
    simp only [Act.put, List.setIfInBounds_toArray, List.set_cons_succ, List.set_cons_zero]
    refine wpS_does1 (i := 2) (d := some 8) (rem := [_]) (out := [_, _]) rfl (by rfl) rfl Try.call10 (few_d (rowT elemS _ _) _ [⟨pms, ms.length, cms⟩] rowS (by simp)) rfl HM18.out [0] rfl covS_nil rfl rfl ?_
    rintro W20 hm19 -
    rw [hfw]
    have HM21 := Lib.hid hm19
    clear hm19
    simp only [Act.put, List.setIfInBounds_toArray, List.set_cons_succ, List.set_cons_zero]
    refine wpS_this [3] rfl (by kernel_rfl) (by simp only [pickL, nthL, List.cons_append, List.nil_append]; rfl) ?_
    repeat (go_big_quiet_step (fail))
    refine wpQuiet_nil ?_
    refine wpS_nil ?_
    refine then_normal ?_
    refine wp_cond_false rfl ?_
    refine wp_skip ?_
    refine then_normal ?_
    refine wp_seq ?_
    refine wp_region_N [(0, 1), (1, 3), (2, 1)] (by kernel_rfl) ?_
    refine wpS_this [0] rfl (by kernel_rfl) (by simp only [pickL, nthL, List.cons_append, List.nil_append]; rfl) ?_
    repeat (go_big_quiet_step (fail))
    refine wpQuiet_nil ?_
    refine wpS_doesU1 (i := 1) (d := some 12) (rem := [_]) rfl (by rfl) rfl Try.call13 (members_d (oldT W0) _ ms (rowOld hms) (by omega)) rfl HM21.out [1] rfl covS_nil (fun _ => rfl) rfl ?_
    rintro u24 W23 hm22 -
    have hok := peersOf_ok ms (-1)
    have hasc := peersOf_asc ms
    obtain ⟨M, hMe'⟩ : ∃ x, peersOf ms (-1) = x := ⟨_, rfl⟩
    rw [hMe'] at hm22 hok hasc
    obtain ⟨mp, mc, rfl⟩ := row_form (Mem.src hm22 0 rfl rowT_reads)
    have hM8 : M.length ≤ 8 := by rw [← hMe']; exact peersOf_len8 _ _
    have hasc := Lib.hid hasc
    have hok := Lib.hid hok
    have hMe := Lib.hid hMe'
    clear hMe'
    have HM25 := Lib.hid hm22
    clear hm22
    simp only [Act.put, List.setIfInBounds_toArray, List.set_cons_succ, List.set_cons_zero]
    refine wpS_this [2] rfl (by kernel_rfl) (by simp only [pickL, nthL, List.cons_append, List.nil_append]; rfl) ?_
    repeat (go_big_quiet_step (fail))
    refine wpQuiet_nil ?_
    refine wpS_nil ?_
    refine then_normal ?_
    refine wp_seq ?_
    refine wp_region_N [(0, 1), (1, 3), (2, 1)] (by kernel_rfl) ?_
    refine wpS_this [0] rfl (by kernel_rfl) (by simp only [pickL, nthL, List.cons_append, List.nil_append]; rfl) ?_
    repeat (go_big_quiet_step (fail))
    refine wpQuiet_nil ?_
    refine wpS_doesU2 (i := 1) (d := some 14) (rem := [_, _]) rfl (by rfl) rfl Try.call17 (assign_d (oldT W0) _ _ [] ms (rowNil _) (rowOld hms) (by omega)) rfl rfl HM25.out [1] rfl covS_nil (fun _ => rfl) rfl ?_
    rintro u28 W27 hm26 -
    rw [hMe.out] at hm26
    obtain ⟨O, hO'⟩ : ∃ x, assignOf [] M = x := ⟨_, rfl⟩
    rw [hO'] at hm26
    obtain ⟨lp, lc, rfl⟩ := rd_form (Mem.row hm26 0 rfl rdRow_reads)
    have hO := Lib.hid hO'
    clear hO'
    have HM29 := Lib.hid hm26
    clear hm26
    simp only [Act.put, List.setIfInBounds_toArray, List.set_cons_succ, List.set_cons_zero]
    refine wpS_this [2] rfl (by kernel_rfl) (by simp only [pickL, nthL, List.cons_append, List.nil_append]; rfl) ?_
    repeat (go_big_quiet_step (fail))
    refine wpQuiet_nil ?_
    refine wpS_nil ?_
    refine then_normal ?_
    refine wp_seq ?_
    refine wp_seq ?_
    by_cases h0 : M.length = 0
    · have h0e : M = [] := List.eq_nil_of_length_eq_zero h0
      have hOn : O.length = 0 := by rw [← hO.out, h0e, show assignOf [] [] = [] from if_pos rfl]; rfl
      have g1 : ((M.length : Int) == 0) = true := beq_iff_eq.2 (by omega)
      have g2 : ((O.length : Int) == 0) = true := beq_iff_eq.2 (by omega)
      have g1' : (M.length == 0) = true := beq_iff_eq.2 h0
      have g2' : (O.length == 0) = true := beq_iff_eq.2 hOn
      refine wp_region_N [(0, 1), (1, 1), (2, 1)] (by kernel_rfl) ?_
      refine wpS_this [0, 1, 2] rfl (by kernel_rfl) (by simp only [pickL, nthL, List.cons_append, List.nil_append]; rfl) ?_
      repeat (go_big_quiet_step (fail))
      refine wpQuiet_nil ?_
      refine wpS_nil ?_
      refine then_normal ?_
      refine wp_cond_true rfl ?_
      refine wp_seq ?_
      refine wp_region_N [(0, 1), (1, 1), (2, 1), (3, 1), (4, 3), (5, 1), (6, 1)] (by kernel_rfl) ?_
      refine wpS_this [0, 1, 2, 3] rfl (by kernel_rfl) (by simp only [pickL, nthL, List.cons_append, List.nil_append]; rfl) ?_
      repeat (go_big_quiet_step (fail))
      refine wpQuiet_nil ?_
      refine wpS_does0 (i := 4) (d := some 22) (rem := [_, _, _, _]) (out := [_, _, _, _]) rfl (by rfl) rfl Try.call11 (awake_d)  HM29.out [] rfl covS_nil rfl rfl ?_
      rintro W31 hm30 -
      have HM32 := Lib.hid hm30
      clear hm30
      simp only [Act.put, List.setIfInBounds_toArray, List.set_cons_succ, List.set_cons_zero]
      refine wpS_this [5, 6] rfl (by kernel_rfl) (by simp only [pickL, nthL, List.cons_append, List.nil_append]; rfl) ?_
      repeat (go_big_quiet_step (fail))
      refine wpQuiet_nil ?_
      refine wpS_nil ?_
      refine then_normal ?_
      refine wp_ret ?_
      refine then_ret ?_
      refine bodyPost_ret (results_tmp rfl _ _ _) rfl ?_
      exact does_ret (Mem.only (M := [_]) HM32.out [1] rfl) rfl rfl
    · have hne : M ≠ [] := fun e => h0 (by rw [e]; rfl)
      have hA : Assigned [] M O := by rw [← hO.out]; exact assigned hok.out hne
      have hOn : O.length = 16 := hA.len
      have g1 : ((M.length : Int) == 0) = false := beq_eq_false_iff_ne.2 (by omega)
      have g1' : (M.length == 0) = false := beq_eq_false_iff_ne.2 h0
      have g2 : ((O.length : Int) != 16) = false := by rw [hOn]; rfl
      have g2' : (O.length != 16) = false := by rw [hOn]; rfl
      have hOl : O.length ≤ 16 ∧ 16 ≤ O.length := by omega
      obtain ⟨hOl, hOg⟩ := hOl
      have hne := Lib.hid hne
      have hA := Lib.hid hA
      replace hOn := Lib.hid hOn
      refine wp_region_N [(0, 1), (1, 1), (2, 1)] (by kernel_rfl) ?_
      refine wpS_this [0, 1, 2] rfl (by kernel_rfl) (by simp only [pickL, nthL, List.cons_append, List.nil_append]; rfl) ?_
      repeat (go_big_quiet_step (fail))
      refine wpQuiet_nil ?_
      refine wpS_nil ?_
      refine then_normal ?_
      refine wp_cond_false rfl ?_
      refine wp_skip ?_
      refine then_normal ?_
      refine wp_seq ?_
      refine wp_seq ?_
      refine wp_region_N [(0, 1), (1, 1), (2, 1), (3, 1), (4, 1), (5, 3), (6, 1), (7, 1)] (by kernel_rfl) ?_
      refine wpS_this [0, 1, 2, 3, 4] rfl (by kernel_rfl) (by simp only [pickL, nthL, List.cons_append, List.nil_append]; rfl) ?_
      repeat (go_big_quiet_step (fail))
      refine wpQuiet_nil ?_
      refine wpS_does2 (i := 5) (d := some 29) (rem := [_, _, _]) (out := [_, _, _, _]) rfl (by rfl) rfl Try.call19 (moves_d (rdRow _ O) _ _ [] O (rowNil _) rdRow_reads) rfl rfl HM29.out [0] rfl covS_nil rfl rfl ?_
      rintro W34 hm33 -
      rw [show ((movesOf [] O : Nat) : Int) = 16 from by rw [moves_nil hok.out hA.out]; rfl]
      have HM35 := Lib.hid hm33
      clear hm33
      simp only [Act.put, List.setIfInBounds_toArray, List.set_cons_succ, List.set_cons_zero]
      refine wpS_this [6, 7] rfl (by kernel_rfl) (by simp only [pickL, nthL, List.cons_append, List.nil_append]; rfl) ?_
      repeat (go_big_quiet_step (fail))
      refine wpQuiet_nil ?_
      refine wpS_nil ?_
      refine then_normal ?_
      refine wp_cond_false rfl ?_
      refine wp_skip ?_
      refine then_normal ?_
      refine wp_seq ?_
      refine wp_seq ?_
      refine wp_region_N [(0, 1)] (by kernel_rfl) ?_
      refine wpS_this [0] rfl (by kernel_rfl) (by simp only [pickL, nthL, List.cons_append, List.nil_append]; rfl) ?_
      repeat (go_big_quiet_step (fail))
      refine wpQuiet_nil ?_
      refine wpS_nil ?_
      refine then_normal ?_
      refine wp_block ?_
      refine wp_loop_F [2, 5, 32, 33, 34, 35, 36, 37, 38, 39, 40, 41, 42, 43, 44, 45, 46, 47, 48, 49, 50, 51, 52, 53, 54, 55] (fun n vs W' => ∃ p : Nat, n = 16 - p ∧ vs 5 = .int .i64 ((p + 1 : Nat) : Int) ∧ p ≤ 16 ∧ Mem [rdRow (.slice lp O.length lc) O, rowT elemI (.slice mp M.length mc) M, oldT W0] H w W') (n0 := 16) ?_ ?_
      · exact ⟨0, rfl, rfl, Nat.zero_le _, (Mem.only (M := [_, _, _]) HM35.out [0, 1, 0] rfl)⟩
      rintro n vs W' ⟨p, rfl, e5, hp, hmm⟩
      simp only [putAll, List.map_cons, List.map_nil, Act.put, List.setIfInBounds_toArray, List.set_cons_succ, List.set_cons_zero]
      rw [e5]
      clear e5
      obtain ⟨pz, hpz'⟩ : ∃ z : Int, ((p + 1 : Nat) : Int) = z := ⟨_, rfl⟩
      rw [hpz']
      have hpz1 : pz = (p : Int) + 1 := by omega
      subst hpz1
      have hpz := Lib.hid hpz'
      clear hpz'
      have HM36 := Lib.hid hmm
      clear hmm
      refine wp_seq ?_
      refine wp_seq ?_
      refine wp_region_N [(0, 1), (1, 1), (2, 1), (3, 1), (4, 1), (5, 1), (6, 1)] (by kernel_rfl) ?_
      refine wpS_this [0, 1, 2, 3, 4, 5, 6] rfl (by kernel_rfl) (by simp only [pickL, nthL, List.cons_append, List.nil_append]; rfl) ?_
      repeat (go_big_quiet_step (fail))
      refine wpQuiet_nil ?_
      refine wpS_nil ?_
      refine then_normal ?_
      refine wp_cond_split rfl (fun h37 => ?_) (fun h37 => ?_)
      · have hpl : p + 1 + M.length < 16 := by have : (p : Int) + 1 < (O.length : Int) - (M.length : Int) := (by simpa using h37); omega
        clear h37
        refine wp_skip ?_
        refine then_normal ?_
        refine wp_seq ?_
        refine wp_block ?_
        refine wp_seq ?_
        by_cases h3 : 3 ≤ M.length
        · have g3 : decide ((3 : Int) ≤ (M.length : Int)) = true := decide_eq_true (by omega)
          have g3' : decide (3 ≤ M.length) = true := decide_eq_true h3
          obtain ⟨x, hx'⟩ : ∃ y, O[p + 1]? = some y := ⟨_, List.getElem?_eq_getElem (by omega)⟩
          obtain ⟨y, hy'⟩ : ∃ y, O[p]? = some y := ⟨_, List.getElem?_eq_getElem (by omega)⟩
          have g4 : (x == y) = false := beq_eq_false_iff_ne.2 (new_unlike hasc.out hO.out hOn.out hne.out h3 hpl hx' hy')
          have hx := Lib.hid hx'
          clear hx'
          have hy := Lib.hid hy'
          clear hy'
          refine wp_region_M (fun k => k ∈ ([] : List Nat)) [(0, 1), (1, 1), (2, 1), (3, 1), (4, 1), (5, 1), (6, 1), (7, 1), (8, 1), (9, 1), (10, 1), (11, 1), (12, 1), (13, 1), (14, 1)] (by kernel_rfl) (by kernel_rfl) HM36.out ?_
          intro W38 hm39
          have HM40 := Lib.hid hm39
          clear hm39
          refine wpS_this [0, 1, 2, 3, 4, 5] rfl (by kernel_rfl) (by simp only [pickL, nthL, List.cons_append, List.nil_append]; rfl) ?_
          repeat (go_big_quiet_step (fail))
          refine wpQuiet_nil ?_
          rw [show ((p : Int) + 1) = ((p + 1 : Nat) : Int) from by omega]
          refine wpS_index (E := elemI) (i := 6) (d := some 47) rfl (by rfl) rfl rfl rfl (HM40.out.row 0 rfl rdRow_reads) (hx.out) rfl ?_
          intro eb41 eo42 hc43
          simp only [Act.put, List.setIfInBounds_toArray, List.set_cons_succ, List.set_cons_zero]
          refine wpS_load1 (i := 7) (d := some 48) (u := .int .i64 x) rfl (by rfl) rfl rfl (hc43 0 _ rfl) Try.underlying3 rfl rfl ?_
          simp only [Act.put, List.setIfInBounds_toArray, List.set_cons_succ, List.set_cons_zero]
          refine wpS_this [8, 9, 10] rfl (by kernel_rfl) (by simp only [pickL, nthL, List.cons_append, List.nil_append]; rfl) ?_
          repeat (go_big_quiet_step (fail))
          refine wpQuiet_nil ?_
          first | rw [show ((p + 1 : Nat) : Int) - 1 = ((p : Nat) : Int) from by omega] | rw [show ((p : Int) + 1) - 1 = ((p : Nat) : Int) from by omega] | skip
          refine wpS_index (E := elemI) (i := 11) (d := some 52) rfl (by rfl) rfl rfl rfl (HM40.out.row 0 rfl rdRow_reads) (hy.out) rfl ?_
          intro eb44 eo45 hc46
          simp only [Act.put, List.setIfInBounds_toArray, List.set_cons_succ, List.set_cons_zero]
          refine wpS_load1 (i := 12) (d := some 53) (u := .int .i64 y) rfl (by rfl) rfl rfl (hc46 0 _ rfl) Try.underlying3 rfl rfl ?_
          simp only [Act.put, List.setIfInBounds_toArray, List.set_cons_succ, List.set_cons_zero]
          refine wpS_this [13, 14] rfl (by kernel_rfl) (by simp only [pickL, nthL, List.cons_append, List.nil_append]; rfl) ?_
          repeat (go_big_quiet_step (fail))
          refine wpQuiet_nil ?_
          refine wpS_nil ?_
          refine then_normal ?_
          refine wp_cond_false rfl ?_
          refine wp_skip ?_
          refine block_normal ?_
          refine then_normal ?_
          refine wp_region_N [(0, 1), (1, 1), (2, 1)] (by kernel_rfl) ?_
          refine wpS_this [0, 1, 2] rfl (by kernel_rfl) (by simp only [pickL, nthL, List.cons_append, List.nil_append]; rfl) ?_
          repeat (go_big_quiet_step (fail))
          refine wpQuiet_nil ?_
          refine wpS_nil ?_
          refine then_normal ?_
          refine ⟨by kernel_rfl, ?_⟩
          refine ⟨16 - (p + 1), by omega, p + 1, rfl, ?_, by omega, (Mem.only (M := [_, _, _]) HM40.out [0, 0, 0] rfl)⟩
          exact congrArg (Value.int .i64) (by omega)
        · have g3 : decide ((3 : Int) ≤ (M.length : Int)) = false := decide_eq_false (by omega)
          have g3' : decide (3 ≤ M.length) = false := decide_eq_false h3
          refine wp_region_M (fun k => k ∈ ([] : List Nat)) [(0, 1), (1, 1), (2, 1), (3, 1), (4, 1), (5, 1), (6, 1), (7, 1), (8, 1), (9, 1), (10, 1), (11, 1), (12, 1), (13, 1), (14, 1)] (by kernel_rfl) (by kernel_rfl) HM36.out ?_
          intro W47 hm48
          have HM49 := Lib.hid hm48
          clear hm48
          refine wpS_this [0, 1, 2, 3, 4, 5] rfl (by kernel_rfl) (by simp only [pickL, nthL, List.cons_append, List.nil_append]; rfl) ?_
          repeat (go_big_quiet_step (fail))
          refine wpQuiet_nil ?_
          refine wpS_skip (i := 6) (d := some 47) rfl (by rfl) rfl ?_
          simp only [Act.put, List.setIfInBounds_toArray, List.set_cons_succ, List.set_cons_zero]
          refine wpS_skip (i := 7) (d := some 48) rfl (by rfl) rfl ?_
          simp only [Act.put, List.setIfInBounds_toArray, List.set_cons_succ, List.set_cons_zero]
          refine wpS_this [8, 9, 10] rfl (by kernel_rfl) (by simp only [pickL, nthL, List.cons_append, List.nil_append]; rfl) ?_
          repeat (go_big_quiet_step (fail))
          refine wpQuiet_nil ?_
          refine wpS_skip (i := 11) (d := some 52) rfl (by rfl) rfl ?_
          simp only [Act.put, List.setIfInBounds_toArray, List.set_cons_succ, List.set_cons_zero]
          refine wpS_skip (i := 12) (d := some 53) rfl (by rfl) rfl ?_
          simp only [Act.put, List.setIfInBounds_toArray, List.set_cons_succ, List.set_cons_zero]
          refine wpS_this [13, 14] rfl (by kernel_rfl) (by simp only [pickL, nthL, List.cons_append, List.nil_append]; rfl) ?_
          repeat (go_big_quiet_step (fail))
          refine wpQuiet_nil ?_
          refine wpS_nil ?_
          refine then_normal ?_
          refine wp_cond_false rfl ?_
          refine wp_skip ?_
          refine block_normal ?_
          refine then_normal ?_
          refine wp_region_N [(0, 1), (1, 1), (2, 1)] (by kernel_rfl) ?_
          refine wpS_this [0, 1, 2] rfl (by kernel_rfl) (by simp only [pickL, nthL, List.cons_append, List.nil_append]; rfl) ?_
          repeat (go_big_quiet_step (fail))
          refine wpQuiet_nil ?_
          refine wpS_nil ?_
          refine then_normal ?_
          refine ⟨by kernel_rfl, ?_⟩
          refine ⟨16 - (p + 1), by omega, p + 1, rfl, ?_, by omega, (Mem.only (M := [_, _, _]) HM49.out [0, 0, 0] rfl)⟩
          exact congrArg (Value.int .i64) (by omega)
      · clear h37
        refine wp_exit ?_
        refine then_exit (then_exit (block_exit ?_))
        refine then_normal ?_
        refine wp_seq ?_
        skip
        · obtain ⟨z0, hz1', hz2'⟩ := new_first hasc.out hO.out hOn.out hne.out
          have hz1 := Lib.hid hz1'
          clear hz1'
          have hz2 := Lib.hid hz2'
          clear hz2'
          refine wp_region_M (fun k => k ∈ ([] : List Nat)) [(0, 1), (1, 1), (2, 1), (3, 1), (4, 1), (5, 1), (6, 1), (7, 1), (8, 3), (9, 1), (10, 1)] (by kernel_rfl) (by kernel_rfl) HM36.out ?_
          intro W50 hm51
          have HM52 := Lib.hid hm51
          clear hm51
          refine wpS_this [0] rfl (by kernel_rfl) (by simp only [pickL, nthL, List.cons_append, List.nil_append]; rfl) ?_
          repeat (go_big_quiet_step (fail))
          refine wpQuiet_nil ?_
          refine wpS_index (E := elemI) (i := 1) (d := some 57) rfl (by rfl) rfl rfl rfl (HM52.out.row 0 rfl rdRow_reads) (hz1.out) rfl ?_
          intro eb53 eo54 hc55
          simp only [Act.put, List.setIfInBounds_toArray, List.set_cons_succ, List.set_cons_zero]
          refine wpS_load1 (i := 2) (d := some 58) (u := .int .i64 z0) rfl (by rfl) rfl rfl (hc55 0 _ rfl) Try.underlying3 rfl rfl ?_
          simp only [Act.put, List.setIfInBounds_toArray, List.set_cons_succ, List.set_cons_zero]
          refine wpS_this [3] rfl (by kernel_rfl) (by simp only [pickL, nthL, List.cons_append, List.nil_append]; rfl) ?_
          repeat (go_big_quiet_step (fail))
          refine wpQuiet_nil ?_
          refine wpS_index (E := elemI) (i := 4) (d := some 60) rfl (by rfl) rfl rfl rfl (HM52.out.row 1 rfl rowOwn) (hz2.out) rfl ?_
          intro eb56 eo57 hc58
          simp only [Act.put, List.setIfInBounds_toArray, List.set_cons_succ, List.set_cons_zero]
          refine wpS_load1 (i := 5) (d := some 61) (u := .int .i64 z0) rfl (by rfl) rfl rfl (hc58 0 _ rfl) Try.underlying3 rfl rfl ?_
          simp only [Act.put, List.setIfInBounds_toArray, List.set_cons_succ, List.set_cons_zero]
          refine wpS_this [6, 7] rfl (by kernel_rfl) (by simp only [pickL, nthL, List.cons_append, List.nil_append]; rfl) ?_
          repeat (go_big_quiet_step (fail))
          refine wpQuiet_nil ?_
          refine wpS_does0 (i := 8) (d := some 64) (rem := [_, _, _]) (out := [_, _, _]) rfl (by rfl) rfl Try.call11 (awake_d)  HM52.out [] rfl covS_nil rfl rfl ?_
          rintro W60 hm59 -
          have HM61 := Lib.hid hm59
          clear hm59
          simp only [Act.put, List.setIfInBounds_toArray, List.set_cons_succ, List.set_cons_zero]
          refine wpS_this [9, 10] rfl (by kernel_rfl) (by simp only [pickL, nthL, List.cons_append, List.nil_append]; rfl) ?_
          repeat (go_big_quiet_step (fail))
          refine wpQuiet_nil ?_
          refine wpS_nil ?_
          refine then_normal ?_
          refine wp_ret ?_
          refine bodyPost_ret (results_tmp rfl _ _ _) rfl ?_
          exact does_ret (Mem.only (M := [_]) HM61.out [2] rfl) rfl rfl

end Go.Proofs.Ytagpbmgeikjnjaa
