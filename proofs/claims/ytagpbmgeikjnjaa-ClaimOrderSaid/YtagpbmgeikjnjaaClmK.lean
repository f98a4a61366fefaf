/- ClaimFair: its walk. -/
import Derived.Test.YtagpbmgeikjnjaaClmJ
namespace Go.Proofs.Ytagpbmgeikjnjaa
open Go Go.RowKit Go.BigFrame

theorem quotas_len (now M : List Int) : (quotasOf now M).length = M.length := by simp [quotasOf]
theorem quotas_at {now M : List Int} {k : Nat} {m : Int} (h : M[k]? = some m) : (quotasOf now M)[k]? = some (quotaOf now M m) := by
  unfold quotasOf
  rw [List.getElem?_map, h]
  rfl
theorem cnt_take {O : List Int} {p : Nat} {x : Int} (h : O[p]? = some x) (m : Int) : (((O.take (p + 1)).count m : Nat) : Int) = ((O.take p).count m : Nat) + (if x = m then 1 else 0) := by
  rw [List.take_add_one, h, Option.toList_some, count_snoc]
  split <;> simp
theorem sum_take {M : List Int} (f : Int → Int) {k : Nat} {m : Int} (h : M[k]? = some m) : ((M.take (k + 1)).map f).sum = ((M.take k).map f).sum + f m := by
  rw [map_take_succ f h, List.sum_append]
  simp
theorem qsum_le (now M : List Int) : ∀ l : List Int, 0 ≤ (l.map (quotaOf now M)).sum ∧ (l.map (quotaOf now M)).sum ≤ 17 * l.length
  | [] => by simp
  | x :: l => by
    have h1 := qsum_le now M l
    have h2 := quota_range now M x
    have h3 : 16 / M.length ≤ 16 := Nat.div_le_self _ _
    simp only [List.map_cons, List.sum_cons, List.length_cons]
    generalize 16 / M.length = z at *
    omega
theorem qsum_take (now M : List Int) (k : Nat) (hk : k ≤ 8) : 0 ≤ ((M.take k).map (quotaOf now M)).sum ∧ ((M.take k).map (quotaOf now M)).sum ≤ 136 := by
  have h1 := qsum_le now M (M.take k)
  have h2 : (M.take k).length ≤ k := by rw [List.length_take]; omega
  omega
set_option maxHeartbeats 4000000 in
set_option maxRecDepth 100000 in
theorem fair_d (W0 : World) (vnow : Value) (vms : Value) (now : List Int) (ms : List Int) (hnow : RowAt elemI W0 vnow now) (hms : RowAt elemI W0 vms ms) : Does Try.prog 4 #[vnow, vms] [oldT W0] (.bool true) [oldT W0] := by
  intro w H hp
  have HM0 := Lib.hid (mem_refl hp)
  clear hp
  obtain ⟨pnow, cnow, rfl⟩ := rd_form hnow
  obtain ⟨pms, cms, rfl⟩ := rd_form hms
  go_enter Try.func4, Try.ntmps4
  refine wp_seq ?_
  refine wp_region_N [(0, 1)] (by kernel_rfl) ?_
  refine wpS_this [0] rfl (by kernel_rfl) (by simp only [pickL, nthL, List.cons_append, List.nil_append]; rfl) ?_
  repeat (go_big_quiet_step (fail))
  refine wpQuiet_nil ?_
  refine wpS_nil ?_
  refine then_normal ?_
  refine wp_seq ?_
  refine wp_seq ?_
  cases hfw : fewB [⟨pnow, now.length, cnow⟩, ⟨pms, ms.length, cms⟩]
  · skip
    refine wp_region_N [(0, 1), (1, 1), (2, 3), (3, 3), (4, 1)] (by kernel_rfl) ?_
    refine wpS_this [0, 1] rfl (by kernel_rfl) (by simp only [pickL, nthL, List.cons_append, List.nil_append]; rfl) ?_
    repeat (go_big_quiet_step (fail))
    refine wpQuiet_nil ?_
    refine wpS_buildN elemS (i := 2) (dd := 16) (n := 2) (xs := [⟨pnow, now.length, cnow⟩, ⟨pms, ms.length, cms⟩]) (cs := #[.slice pnow now.length cnow, .slice pms ms.length cms]) rfl (by rfl) (fun _ => by kernel_rfl) rfl rfl HM0.out covS_nil rfl ?_
    rintro b3 W4 hm5 -
    have HM6 := Lib.hid hm5
    clear hm5
    simp only [Act.put, List.setIfInBounds_toArray, List.set_cons_succ, List.set_cons_zero]
    refine wpS_does1 (i := 3) (d := some 17) (rem := [_]) (out := [_, _]) rfl (by rfl) rfl Try.call10 (few_d (rowT elemS _ _) _ [⟨pnow, now.length, cnow⟩, ⟨pms, ms.length, cms⟩] rowS (by simp)) rfl HM6.out [0] rfl covS_nil rfl rfl ?_
    rintro W8 hm7 -
    rw [hfw]
    have HM9 := Lib.hid hm7
    clear hm7
    simp only [Act.put, List.setIfInBounds_toArray, List.set_cons_succ, List.set_cons_zero]
    refine wpS_this [4] rfl (by kernel_rfl) (by simp only [pickL, nthL, List.cons_append, List.nil_append]; rfl) ?_
    repeat (go_big_quiet_step (fail))
    refine wpQuiet_nil ?_
    refine wpS_nil ?_
    refine then_normal ?_
    refine wp_cond_true rfl ?_
    refine wp_seq ?_
    refine wp_region_N [(0, 3), (1, 1)] (by kernel_rfl) ?_
    refine wpS_does0 (i := 0) (d := some 19) (rem := [_, _]) (out := [_, _]) rfl (by rfl) rfl Try.call11 (awake_d)  HM9.out [] rfl covS_nil rfl rfl ?_
    rintro W11 hm10 -
    have HM12 := Lib.hid hm10
    clear hm10
    simp only [Act.put, List.setIfInBounds_toArray, List.set_cons_succ, List.set_cons_zero]
    refine wpS_this [1] rfl (by kernel_rfl) (by simp only [pickL, nthL, List.cons_append, List.nil_append]; rfl) ?_
    repeat (go_big_quiet_step (fail))
    refine wpQuiet_nil ?_
    refine wpS_nil ?_
    refine then_normal ?_
    refine wp_ret ?_
    refine then_ret ?_
    refine bodyPost_ret (results_tmp rfl _ _ _) rfl ?_
    exact does_ret (Mem.only (M := [_]) HM12.out [1] rfl) rfl rfl
  · have hbb : now.length ≤ 100 ∧ ms.length ≤ 100 := by simpa [fewB] using hfw
    obtain ⟨hbnow, hbms⟩ := hbb
    refine wp_region_N [(0, 1), (1, 1), (2, 3), (3, 3), (4, 1)] (by kernel_rfl) ?_
    refine wpS_this [0, 1] rfl (by kernel_rfl) (by simp only [pickL, nthL, List.cons_append, List.nil_append]; rfl) ?_
    repeat (go_big_quiet_step (fail))
    refine wpQuiet_nil ?_
    refine wpS_buildN elemS (i := 2) (dd := 16) (n := 2) (xs := [⟨pnow, now.length, cnow⟩, ⟨pms, ms.length, cms⟩]) (cs := #[.slice pnow now.length cnow, .slice pms ms.length cms]) rfl (by rfl) (fun _ => by kernel_rfl) rfl rfl HM0.out covS_nil rfl ?_
    rintro b15 W16 hm17 -
    have HM18 := Lib.hid hm17
    clear hm17
    simp only [Act.put, List.setIfInBounds_toArray, List.set_cons_succ, List.set_cons_zero]
    refine wpS_does1 (i := 3) (d := some 17) (rem := [_]) (out := [_, _]) rfl (by rfl) rfl Try.call10 (few_d (rowT elemS _ _) _ [⟨pnow, now.length, cnow⟩, ⟨pms, ms.length, cms⟩] rowS (by simp)) rfl HM18.out [0] rfl covS_nil rfl rfl ?_
    rintro W20 hm19 -
    rw [hfw]
    have HM21 := Lib.hid hm19
    clear hm19
    simp only [Act.put, List.setIfInBounds_toArray, List.set_cons_succ, List.set_cons_zero]
    refine wpS_this [4] rfl (by kernel_rfl) (by simp only [pickL, nthL, List.cons_append, List.nil_append]; rfl) ?_
    repeat (go_big_quiet_step (fail))
    refine wpQuiet_nil ?_
    refine wpS_nil ?_
    refine then_normal ?_
    refine wp_cond_false rfl ?_
    refine wp_skip ?_
    refine then_normal ?_
    refine wp_seq ?_
    refine wp_region_N [(0, 1), (1, 3), (2, 1)] (by kernel_rfl) ?_
    refine wpS_this [0] rfl (by kernel_rfl) (by simp only [pickL, nthL, List.cons_append, List.nil_append]; rfl) ?_
    repeat (go_big_quiet_step (fail))
    refine wpQuiet_nil ?_
    refine wpS_doesU1 (i := 1) (d := some 21) (rem := [_]) rfl (by rfl) rfl Try.call13 (members_d (oldT W0) _ ms (rowOld hms) (by omega)) rfl HM21.out [1] rfl covS_nil (fun _ => rfl) rfl ?_
    rintro u24 W23 hm22 -
    have hok := peersOf_ok ms (-1)
    obtain ⟨M, hMe'⟩ : ∃ x, peersOf ms (-1) = x := ⟨_, rfl⟩
    rw [hMe'] at hm22 hok
    obtain ⟨mp, mc, rfl⟩ := row_form (Mem.src hm22 0 rfl rowT_reads)
    have hM8 : M.length ≤ 8 := by rw [← hMe']; exact peersOf_len8 _ _
    have hok := Lib.hid hok
    have hMe := Lib.hid hMe'
    clear hMe'
    have HM25 := Lib.hid hm22
    clear hm22
    simp only [Act.put, List.setIfInBounds_toArray, List.set_cons_succ, List.set_cons_zero]
    refine wpS_this [2] rfl (by kernel_rfl) (by simp only [pickL, nthL, List.cons_append, List.nil_append]; rfl) ?_
    repeat (go_big_quiet_step (fail))
    refine wpQuiet_nil ?_
    refine wpS_nil ?_
    refine then_normal ?_
    refine wp_seq ?_
    refine wp_region_N [(0, 1), (1, 1), (2, 3), (3, 1)] (by kernel_rfl) ?_
    refine wpS_this [0, 1] rfl (by kernel_rfl) (by simp only [pickL, nthL, List.cons_append, List.nil_append]; rfl) ?_
    repeat (go_big_quiet_step (fail))
    refine wpQuiet_nil ?_
    refine wpS_doesU2 (i := 2) (d := some 24) (rem := [_, _]) rfl (by rfl) rfl Try.call17 (assign_d (oldT W0) _ _ now ms (rowOld hnow) (rowOld hms) (by omega)) rfl rfl HM25.out [1] rfl covS_nil (fun _ => rfl) rfl ?_
    rintro u28 W27 hm26 -
    rw [hMe.out] at hm26
    obtain ⟨O, hO'⟩ : ∃ x, assignOf now M = x := ⟨_, rfl⟩
    rw [hO'] at hm26
    obtain ⟨lp, lc, rfl⟩ := rd_form (Mem.row hm26 0 rfl rdRow_reads)
    have hO := Lib.hid hO'
    clear hO'
    have HM29 := Lib.hid hm26
    clear hm26
    simp only [Act.put, List.setIfInBounds_toArray, List.set_cons_succ, List.set_cons_zero]
    refine wpS_this [3] rfl (by kernel_rfl) (by simp only [pickL, nthL, List.cons_append, List.nil_append]; rfl) ?_
    repeat (go_big_quiet_step (fail))
    refine wpQuiet_nil ?_
    refine wpS_nil ?_
    refine then_normal ?_
    refine wp_seq ?_
    refine wp_region_N [(0, 1), (1, 1), (2, 3), (3, 1)] (by kernel_rfl) ?_
    refine wpS_this [0, 1] rfl (by kernel_rfl) (by simp only [pickL, nthL, List.cons_append, List.nil_append]; rfl) ?_
    repeat (go_big_quiet_step (fail))
    refine wpQuiet_nil ?_
    refine wpS_doesU2 (i := 2) (d := some 27) (rem := [_, _, _]) rfl (by rfl) rfl Try.call15 (quotas_d (oldT W0) _ _ now ms (rowOld hnow) (rowOld hms) (by omega)) rfl rfl HM29.out [1] rfl covS_nil (fun _ => rfl) rfl ?_
    rintro u32 W31 hm30 -
    rw [hMe.out] at hm30
    obtain ⟨q, hq'⟩ : ∃ x, quotasOf now M = x := ⟨_, rfl⟩
    rw [hq'] at hm30
    obtain ⟨qp, qc, rfl⟩ := row_form (Mem.src hm30 0 rfl rowT_reads)
    have hqn : q.length = M.length := by rw [← hq']; exact quotas_len _ _
    have hqq := Lib.hid hq'
    clear hq'
    have hqn := Lib.hid hqn
    have HM33 := Lib.hid hm30
    clear hm30
    simp only [Act.put, List.setIfInBounds_toArray, List.set_cons_succ, List.set_cons_zero]
    refine wpS_this [3] rfl (by kernel_rfl) (by simp only [pickL, nthL, List.cons_append, List.nil_append]; rfl) ?_
    repeat (go_big_quiet_step (fail))
    refine wpQuiet_nil ?_
    refine wpS_nil ?_
    refine then_normal ?_
    refine wp_seq ?_
    refine wp_seq ?_
    by_cases h0 : M.length = 0
    · have h0e : M = [] := List.eq_nil_of_length_eq_zero h0
      have hOn : O.length = 0 := by rw [← hO.out, h0e, show assignOf now [] = [] from if_pos rfl]; rfl
      have hqz : q.length = 0 := hqn.out.trans h0
      have g1 : ((M.length : Int) == 0) = true := beq_iff_eq.2 (by omega)
      have g2 : ((O.length : Int) == 0) = true := beq_iff_eq.2 (by omega)
      have g3 : ((q.length : Int) == 0) = true := beq_iff_eq.2 (by omega)
      have g1' : (M.length == 0) = true := beq_iff_eq.2 h0
      have g2' : (O.length == 0) = true := beq_iff_eq.2 hOn
      have g3' : (q.length == 0) = true := beq_iff_eq.2 hqz
      refine wp_region_N [(0, 1), (1, 1), (2, 1)] (by kernel_rfl) ?_
      refine wpS_this [0, 1, 2] rfl (by kernel_rfl) (by simp only [pickL, nthL, List.cons_append, List.nil_append]; rfl) ?_
      repeat (go_big_quiet_step (fail))
      refine wpQuiet_nil ?_
      refine wpS_nil ?_
      refine then_normal ?_
      refine wp_cond_true rfl ?_
      refine wp_seq ?_
      refine wp_region_N [(0, 1), (1, 1), (2, 1), (3, 1), (4, 1), (5, 1), (6, 1), (7, 1), (8, 1), (9, 3), (10, 1), (11, 1)] (by kernel_rfl) ?_
      refine wpS_this [0, 1, 2, 3, 4, 5, 6, 7, 8] rfl (by kernel_rfl) (by simp only [pickL, nthL, List.cons_append, List.nil_append]; rfl) ?_
      repeat (go_big_quiet_step (fail))
      refine wpQuiet_nil ?_
      refine wpS_does0 (i := 9) (d := some 40) (rem := [_, _, _, _, _]) (out := [_, _, _, _, _]) rfl (by rfl) rfl Try.call11 (awake_d)  HM33.out [] rfl covS_nil rfl rfl ?_
      rintro W35 hm34 -
      have HM36 := Lib.hid hm34
      clear hm34
      simp only [Act.put, List.setIfInBounds_toArray, List.set_cons_succ, List.set_cons_zero]
      refine wpS_this [10, 11] rfl (by kernel_rfl) (by simp only [pickL, nthL, List.cons_append, List.nil_append]; rfl) ?_
      repeat (go_big_quiet_step (fail))
      refine wpQuiet_nil ?_
      refine wpS_nil ?_
      refine then_normal ?_
      refine wp_ret ?_
      refine then_ret ?_
      refine bodyPost_ret (results_tmp rfl _ _ _) rfl ?_
      exact does_ret (Mem.only (M := [_]) HM36.out [1] rfl) rfl rfl
    · have hne : M ≠ [] := fun e => h0 (by rw [e]; rfl)
      have hA : Assigned now M O := by rw [← hO.out]; exact assigned hok.out hne
      have hOn : O.length = 16 := hA.len
      have g1 : ((M.length : Int) == 0) = false := beq_eq_false_iff_ne.2 (by omega)
      have g1' : (M.length == 0) = false := beq_eq_false_iff_ne.2 h0
      have g2 : ((O.length : Int) != 16) = false := by rw [hOn]; rfl
      have g2' : (O.length != 16) = false := by rw [hOn]; rfl
      have g3 : ((q.length : Int) != (M.length : Int)) = false := by rw [hqn.out]; exact bne_self_eq_false _
      have g3' : (q.length != M.length) = false := by rw [hqn.out]; exact bne_self_eq_false _
      have hne := Lib.hid hne
      have hA := Lib.hid hA
      replace hOn := Lib.hid hOn
      obtain ⟨bN, hbN'⟩ : ∃ b, 16 / M.length = b := ⟨_, rfl⟩
      have hbI : Hid ((16 : Int) / (M.length : Int) = (bN : Int)) := Lib.hid (by rw [← hbN']; simp)
      have hbN16 : bN ≤ 16 := by rw [← hbN']; exact Nat.div_le_self _ _
      have hbN := Lib.hid hbN'
      clear hbN'
      refine wp_region_N [(0, 1), (1, 1), (2, 1)] (by kernel_rfl) ?_
      refine wpS_this [0, 1, 2] rfl (by kernel_rfl) (by simp only [pickL, nthL, List.cons_append, List.nil_append]; rfl) ?_
      repeat (go_big_quiet_step (fail))
      refine wpQuiet_nil ?_
      refine wpS_nil ?_
      refine then_normal ?_
      refine wp_cond_false rfl ?_
      refine wp_skip ?_
      refine then_normal ?_
      refine wp_seq ?_
      refine wp_seq ?_
      refine wp_region_N [(0, 1), (1, 1), (2, 1), (3, 1), (4, 1), (5, 1), (6, 1), (7, 1), (8, 1), (9, 1)] (by kernel_rfl) ?_
      refine wpS_this [0, 1, 2, 3, 4, 5, 6, 7, 8, 9] rfl (by kernel_rfl) (by simp only [pickL, nthL, List.cons_append, List.nil_append]; rfl) ?_
      repeat (go_big_quiet_step (fail))
      refine wpQuiet_nil ?_
      refine wpS_nil ?_
      refine then_normal ?_
      refine wp_cond_false rfl ?_
      refine wp_skip ?_
      refine then_normal ?_
      refine wp_seq ?_
      refine wp_region_N [(0, 1)] (by kernel_rfl) ?_
      refine wpS_this [0] rfl (by kernel_rfl) (by simp only [pickL, nthL, List.cons_append, List.nil_append]; rfl) ?_
      repeat (go_big_quiet_step (fail))
      refine wpQuiet_nil ?_
      refine wpS_nil ?_
      refine then_normal ?_
      refine wp_seq ?_
      refine wp_seq ?_
      refine wp_region_N [(0, 1), (1, 1), (2, 1)] (by kernel_rfl) ?_
      refine wpS_this [0, 1, 2] rfl (by kernel_rfl) (by simp only [pickL, nthL, List.cons_append, List.nil_append]; rfl) ?_
      repeat (go_big_quiet_step (fail))
      refine wpQuiet_nil ?_
      refine wpS_nil ?_
      refine then_normal ?_
      refine wp_block ?_
      refine wp_loop_F [4, 8, 9, 10, 11, 13, 54, 55, 56, 57, 58, 59, 60, 61, 62, 63, 64, 65, 66, 67, 68, 69, 70, 71, 72, 73, 74, 75, 76, 77, 78, 79, 80, 81, 82, 83, 84, 85, 86, 87, 88, 89, 90, 91, 92, 93, 94, 95, 96, 97, 98, 99, 100, 101] (fun n vs W' => ∃ k : Nat, n = M.length - k ∧ vs 54 = .int .i64 (k : Int) ∧ vs 8 = .int .i64 ((M.take k).map (quotaOf now M)).sum ∧ k ≤ M.length ∧ Mem [rdRow (.slice lp O.length lc) O, rowT elemI (.slice mp M.length mc) M, rowT elemI (.slice qp q.length qc) q, oldT W0] H w W') (n0 := M.length) ?_ ?_
      · exact ⟨0, rfl, rfl, rfl, Nat.zero_le _, (Mem.only (M := [_, _, _, _]) HM33.out [2, 2, 0, 0] rfl)⟩
      rintro n vs W' ⟨k, rfl, e54, e8, hk, hmm⟩
      simp only [putAll, List.map_cons, List.map_nil, Act.put, List.setIfInBounds_toArray, List.set_cons_succ, List.set_cons_zero]
      rw [e54, e8]
      clear e54 e8
      have hsb := qsum_take now M k (by omega)
      obtain ⟨s0, hs0'⟩ : ∃ z : Int, ((M.take k).map (quotaOf now M)).sum = z := ⟨_, rfl⟩
      rw [hs0'] at hsb
      rw [hs0']
      obtain ⟨hsb0, hsb1⟩ := hsb
      have hs0 := Lib.hid hs0'
      clear hs0'
      have HM37 := Lib.hid hmm
      clear hmm
      refine wp_seq ?_
      refine wp_region_N [(0, 1)] (by kernel_rfl) ?_
      refine wpS_this [0] rfl (by kernel_rfl) (by simp only [pickL, nthL, List.cons_append, List.nil_append]; rfl) ?_
      repeat (go_big_quiet_step (fail))
      refine wpQuiet_nil ?_
      refine wpS_nil ?_
      refine then_normal ?_
      refine wp_seq ?_
      refine wp_cond_split rfl (fun h38 => ?_) (fun h38 => ?_)
      · have hk1 : k + 1 ≤ M.length := by have : (k : Int) < ((M.length : Nat) : Int) := (by simpa using h38); omega
        clear h38
        obtain ⟨m, hm'⟩ : ∃ y, M[k]? = some y := ⟨_, List.getElem?_eq_getElem hk1⟩
        obtain ⟨qv, hqv'⟩ : ∃ z : Int, quotaOf now M m = z := ⟨_, rfl⟩
        have hqk : Hid (q[k]? = some qv) := Lib.hid (by rw [← hqq.out, quotas_at hm', hqv'])
        have hqr := quota_range now M m
        rw [hqv'] at hqr
        obtain ⟨hqr0, hqr1⟩ := hqr
        rw [hbN.out] at hqr0 hqr1
        have g4 : decide (qv < (bN : Int)) = false := decide_eq_false (by omega)
        have g5 : decide ((bN : Int) + 1 < qv) = false := decide_eq_false (by omega)
        have hm := Lib.hid hm'
        clear hm'
        have hqv := Lib.hid hqv'
        clear hqv'
        refine wp_skip ?_
        refine then_normal ?_
        refine wp_seq ?_
        refine wp_block ?_
        refine wp_seq ?_
        refine wp_region_N [(0, 1), (1, 1), (2, 1), (3, 1), (4, 1)] (by kernel_rfl) ?_
        refine wpS_this [0] rfl (by kernel_rfl) (by simp only [pickL, nthL, List.cons_append, List.nil_append]; rfl) ?_
        repeat (go_big_quiet_step (fail))
        refine wpQuiet_nil ?_
        refine wpS_index (E := elemI) (i := 1) (d := some 57) rfl (by rfl) rfl rfl rfl (HM37.out.row 1 rfl rowOwn) (hm.out) rfl ?_
        intro eb39 eo40 hc41
        simp only [Act.put, List.setIfInBounds_toArray, List.set_cons_succ, List.set_cons_zero]
        refine wpS_load1 (i := 2) (d := some 58) (u := .int .i64 m) rfl (by rfl) rfl rfl (hc41 0 _ rfl) Try.underlying3 rfl rfl ?_
        simp only [Act.put, List.setIfInBounds_toArray, List.set_cons_succ, List.set_cons_zero]
        refine wpS_this [3, 4] rfl (by kernel_rfl) (by simp only [pickL, nthL, List.cons_append, List.nil_append]; rfl) ?_
        repeat (go_big_quiet_step (fail))
        refine wpQuiet_nil ?_
        refine wpS_nil ?_
        refine then_normal ?_
        refine wp_seq ?_
        refine wp_region_N [(0, 1)] (by kernel_rfl) ?_
        refine wpS_this [0] rfl (by kernel_rfl) (by simp only [pickL, nthL, List.cons_append, List.nil_append]; rfl) ?_
        repeat (go_big_quiet_step (fail))
        refine wpQuiet_nil ?_
        refine wpS_nil ?_
        refine then_normal ?_
        refine wp_seq ?_
        refine wp_seq ?_
        refine wp_region_N [(0, 1), (1, 1), (2, 1)] (by kernel_rfl) ?_
        refine wpS_this [0, 1, 2] rfl (by kernel_rfl) (by simp only [pickL, nthL, List.cons_append, List.nil_append]; rfl) ?_
        repeat (go_big_quiet_step (fail))
        refine wpQuiet_nil ?_
        refine wpS_nil ?_
        refine then_normal ?_
        refine wp_block ?_
        refine wp_loop_F [11, 13, 61, 62, 63, 64, 65, 66, 67, 68, 69, 70] (fun n ws W' => ∃ p : Nat, n = O.length - p ∧ ws 61 = .int .i64 (p : Int) ∧ ws 11 = .int .i64 ((O.take p).count m : Nat) ∧ p ≤ O.length ∧ Mem [rdRow (.slice lp O.length lc) O, rowT elemI (.slice mp M.length mc) M, rowT elemI (.slice qp q.length qc) q, oldT W0] H w W') (n0 := O.length) ?_ ?_
        · exact ⟨0, rfl, rfl, rfl, Nat.zero_le _, (Mem.only (M := [_, _, _, _]) HM37.out [0, 0, 0, 0] rfl)⟩
        rintro n ws W' ⟨p, rfl, e61, e11, hp, hmm2⟩
        simp only [putAll, List.map_cons, List.map_nil, Act.put, List.setIfInBounds_toArray, List.set_cons_succ, List.set_cons_zero]
        rw [e61, e11]
        clear e61 e11
        have hp16 : p ≤ 16 := by have := hOn.out; omega
        have hcb : (((O.take p).count m : Nat) : Int) ≤ 16 := by have h1 := List.count_le_length (a := m) (l := O.take p); have h2 := hOn.out; rw [List.length_take] at h1; omega
        have hcb0 : (0 : Int) ≤ (((O.take p).count m : Nat) : Int) := Int.natCast_nonneg _
        obtain ⟨c, hc'⟩ : ∃ z : Int, (((O.take p).count m : Nat) : Int) = z := ⟨_, rfl⟩
        rw [hc'] at hcb hcb0
        rw [hc']
        have hc := Lib.hid hc'
        clear hc'
        have HM42 := Lib.hid hmm2
        clear hmm2
        refine wp_seq ?_
        refine wp_region_N [(0, 1)] (by kernel_rfl) ?_
        refine wpS_this [0] rfl (by kernel_rfl) (by simp only [pickL, nthL, List.cons_append, List.nil_append]; rfl) ?_
        repeat (go_big_quiet_step (fail))
        refine wpQuiet_nil ?_
        refine wpS_nil ?_
        refine then_normal ?_
        refine wp_seq ?_
        refine wp_cond_split rfl (fun h43 => ?_) (fun h43 => ?_)
        · have hp1 : p + 1 ≤ O.length := by have : (p : Int) < ((O.length : Nat) : Int) := (by simpa using h43); omega
          clear h43
          obtain ⟨x, hx'⟩ : ∃ y, O[p]? = some y := ⟨_, List.getElem?_eq_getElem hp1⟩
          have hx := Lib.hid hx'
          clear hx'
          refine wp_skip ?_
          refine then_normal ?_
          refine wp_seq ?_
          refine wp_block ?_
          refine wp_seq ?_
          refine wp_region_N [(0, 1), (1, 1), (2, 1)] (by kernel_rfl) ?_
          refine wpS_index (E := elemI) (i := 0) (d := some 63) rfl (by rfl) rfl rfl rfl (HM42.out.row 0 rfl rdRow_reads) (hx.out) rfl ?_
          intro eb44 eo45 hc46
          simp only [Act.put, List.setIfInBounds_toArray, List.set_cons_succ, List.set_cons_zero]
          refine wpS_load1 (i := 1) (d := some 64) (u := .int .i64 x) rfl (by rfl) rfl rfl (hc46 0 _ rfl) Try.underlying3 rfl rfl ?_
          simp only [Act.put, List.setIfInBounds_toArray, List.set_cons_succ, List.set_cons_zero]
          refine wpS_this [2] rfl (by kernel_rfl) (by simp only [pickL, nthL, List.cons_append, List.nil_append]; rfl) ?_
          repeat (go_big_quiet_step (fail))
          refine wpQuiet_nil ?_
          refine wpS_nil ?_
          refine then_normal ?_
          refine wp_seq ?_
          refine wp_region_N [(0, 1), (1, 1), (2, 1)] (by kernel_rfl) ?_
          refine wpS_this [0, 1, 2] rfl (by kernel_rfl) (by simp only [pickL, nthL, List.cons_append, List.nil_append]; rfl) ?_
          repeat (go_big_quiet_step (fail))
          refine wpQuiet_nil ?_
          refine wpS_nil ?_
          refine then_normal ?_
          refine wp_cond_split rfl (fun h47 => ?_) (fun h47 => ?_)
          · have h18 : Hid (x = m) := Lib.hid (by simpa using h47)
            clear h47
            refine wp_region_N [(0, 1), (1, 1), (2, 1)] (by kernel_rfl) ?_
            refine wpS_this [0, 1, 2] rfl (by kernel_rfl) (by simp only [pickL, nthL, List.cons_append, List.nil_append]; rfl) ?_
            repeat (go_big_quiet_step (fail))
            refine wpQuiet_nil ?_
            refine wpS_nil ?_
            refine block_normal ?_
            refine then_normal ?_
            refine wp_region_N [(0, 1), (1, 1)] (by kernel_rfl) ?_
            refine wpS_this [0, 1] rfl (by kernel_rfl) (by simp only [pickL, nthL, List.cons_append, List.nil_append]; rfl) ?_
            repeat (go_big_quiet_step (fail))
            refine wpQuiet_nil ?_
            refine wpS_nil ?_
            refine then_normal ?_
            refine ⟨by kernel_rfl, ?_⟩
            refine ⟨O.length - (p + 1), by omega, p + 1, rfl, rfl, ?_, hp1, (Mem.only (M := [_, _, _, _]) HM42.out [0, 0, 0, 0] rfl)⟩
            rw [cnt_take hx.out m, if_pos h18.out, hc.out]
            rfl
          · have h18 : Hid (¬ x = m) := Lib.hid (by simpa using h47)
            clear h47
            refine wp_skip ?_
            refine block_normal ?_
            refine then_normal ?_
            refine wp_region_N [(0, 1), (1, 1)] (by kernel_rfl) ?_
            refine wpS_this [0, 1] rfl (by kernel_rfl) (by simp only [pickL, nthL, List.cons_append, List.nil_append]; rfl) ?_
            repeat (go_big_quiet_step (fail))
            refine wpQuiet_nil ?_
            refine wpS_nil ?_
            refine then_normal ?_
            refine ⟨by kernel_rfl, ?_⟩
            refine ⟨O.length - (p + 1), by omega, p + 1, rfl, rfl, ?_, hp1, (Mem.only (M := [_, _, _, _]) HM42.out [0, 0, 0, 0] rfl)⟩
            rw [cnt_take hx.out m, if_neg h18.out, hc.out]
            rw [Int.add_zero]
            rfl
        · have hgeP : Hid (O.length ≤ p) := Lib.hid (by have : ¬ (p : Int) < (O.length : Int) := (by simpa using h43); omega)
          clear h43
          refine wp_exit ?_
          refine then_exit (then_exit (block_exit ?_))
          refine then_normal ?_
          refine wp_seq ?_
          refine wp_seq ?_
          skip
          · have hcq : c = qv := by
                have hp16 : p = O.length := by have := hgeP.out; omega
                subst hp16
                have h2 := hA.out.cnt m (List.mem_of_getElem? hm.out)
                rw [← hc.out, List.take_length, h2, hqv.out]
            rw [hcq]
            have hcq := Lib.hid hcq
            refine wp_region_M (fun k => k ∈ ([] : List Nat)) [(0, 1), (1, 1), (2, 1), (3, 1), (4, 1), (5, 1), (6, 1), (7, 1), (8, 1), (9, 1), (10, 1), (11, 1), (12, 1), (13, 1), (14, 1), (15, 1), (16, 1), (17, 1), (18, 1), (19, 1), (20, 1), (21, 1), (22, 1), (23, 1), (24, 1), (25, 1), (26, 1)] (by kernel_rfl) (by kernel_rfl) HM42.out ?_
            intro W48 hm49
            have HM50 := Lib.hid hm49
            clear hm49
            refine wpS_this [0, 1, 2] rfl (by kernel_rfl) (by simp only [pickL, nthL, List.cons_append, List.nil_append]; rfl) ?_
            repeat (go_big_quiet_step (fail))
            refine wpQuiet_nil ?_
            refine wpS_index (E := elemI) (i := 3) (d := some 74) rfl (by rfl) rfl rfl rfl (HM50.out.row 2 rfl rowOwn) (hqk.out) rfl ?_
            intro eb51 eo52 hc53
            simp only [Act.put, List.setIfInBounds_toArray, List.set_cons_succ, List.set_cons_zero]
            refine wpS_load1 (i := 4) (d := some 75) (u := .int .i64 qv) rfl (by rfl) rfl rfl (hc53 0 _ rfl) Try.underlying3 rfl rfl ?_
            simp only [Act.put, List.setIfInBounds_toArray, List.set_cons_succ, List.set_cons_zero]
            refine wpS_this [5, 6, 7, 8] rfl (by kernel_rfl) (by simp only [pickL, nthL, List.cons_append, List.nil_append]; rfl) ?_
            repeat (go_big_quiet_step (fail))
            refine wpQuiet_nil ?_
            refine wpS_index (E := elemI) (i := 9) (d := some 80) rfl (by rfl) rfl rfl rfl (HM50.out.row 2 rfl rowOwn) (hqk.out) rfl ?_
            intro eb54 eo55 hc56
            simp only [Act.put, List.setIfInBounds_toArray, List.set_cons_succ, List.set_cons_zero]
            refine wpS_load1 (i := 10) (d := some 81) (u := .int .i64 qv) rfl (by rfl) rfl rfl (hc56 0 _ rfl) Try.underlying3 rfl rfl ?_
            simp only [Act.put, List.setIfInBounds_toArray, List.set_cons_succ, List.set_cons_zero]
            refine wpS_this [11, 12] rfl (by kernel_rfl) (by simp only [pickL, nthL, List.cons_append, List.nil_append]; rfl) ?_
            repeat (go_big_quiet_step (fail))
            refine wpQuiet_nil ?_
            refine wpS_this [13] rfl (by kernel_rfl) (by simp only [pickL, nthL, List.cons_append, List.nil_append]; rfl) ?_
            repeat (go_big_quiet_step (fail))
            refine wpQuiet_nil ?_
            rw [hbI.out]
            refine wpS_this [14, 15, 16, 17, 18] rfl (by kernel_rfl) (by simp only [pickL, nthL, List.cons_append, List.nil_append]; rfl) ?_
            repeat (go_big_quiet_step (fail))
            refine wpQuiet_nil ?_
            refine wpS_index (E := elemI) (i := 19) (d := some 90) rfl (by rfl) rfl rfl rfl (HM50.out.row 2 rfl rowOwn) (hqk.out) rfl ?_
            intro eb57 eo58 hc59
            simp only [Act.put, List.setIfInBounds_toArray, List.set_cons_succ, List.set_cons_zero]
            refine wpS_load1 (i := 20) (d := some 91) (u := .int .i64 qv) rfl (by rfl) rfl rfl (hc59 0 _ rfl) Try.underlying3 rfl rfl ?_
            simp only [Act.put, List.setIfInBounds_toArray, List.set_cons_succ, List.set_cons_zero]
            refine wpS_this [21, 22] rfl (by kernel_rfl) (by simp only [pickL, nthL, List.cons_append, List.nil_append]; rfl) ?_
            repeat (go_big_quiet_step (fail))
            refine wpQuiet_nil ?_
            refine wpS_this [23] rfl (by kernel_rfl) (by simp only [pickL, nthL, List.cons_append, List.nil_append]; rfl) ?_
            repeat (go_big_quiet_step (fail))
            refine wpQuiet_nil ?_
            rw [hbI.out]
            refine wpS_this [24, 25, 26] rfl (by kernel_rfl) (by simp only [pickL, nthL, List.cons_append, List.nil_append]; rfl) ?_
            repeat (go_big_quiet_step (fail))
            refine wpQuiet_nil ?_
            refine wpS_nil ?_
            refine then_normal ?_
            refine wp_cond_false rfl ?_
            refine wp_skip ?_
            refine then_normal ?_
            refine wp_region_N [(0, 1), (1, 1), (2, 1), (3, 1)] (by kernel_rfl) ?_
            refine wpS_this [0, 1, 2, 3] rfl (by kernel_rfl) (by simp only [pickL, nthL, List.cons_append, List.nil_append]; rfl) ?_
            repeat (go_big_quiet_step (fail))
            refine wpQuiet_nil ?_
            refine wpS_nil ?_
            refine block_normal ?_
            refine then_normal ?_
            refine wp_region_N [(0, 1), (1, 1)] (by kernel_rfl) ?_
            refine wpS_this [0, 1] rfl (by kernel_rfl) (by simp only [pickL, nthL, List.cons_append, List.nil_append]; rfl) ?_
            repeat (go_big_quiet_step (fail))
            refine wpQuiet_nil ?_
            refine wpS_nil ?_
            refine then_normal ?_
            refine ⟨by kernel_rfl, ?_⟩
            refine ⟨M.length - (k + 1), by omega, k + 1, rfl, rfl, ?_, hk1, (Mem.only (M := [_, _, _, _]) HM50.out [0, 0, 0, 0] rfl)⟩
            rw [sum_take _ hm.out, hs0.out, hqv.out]
            rfl
      · have hgeM : Hid (M.length ≤ k) := Lib.hid (by have : ¬ (k : Int) < (M.length : Int) := (by simpa using h38); omega)
        clear h38
        refine wp_exit ?_
        refine then_exit (then_exit (block_exit ?_))
        refine then_normal ?_
        refine wp_seq ?_
        skip
        · have hs16 : s0 = 16 := by
              have hkm : k = M.length := by have := hgeM.out; omega
              subst hkm
              rw [← hs0.out, List.take_length, quota_sum hok.out.nodup hne.out]
          rw [hs16]
          have hag : Hid (assignOf O M = O) := Lib.hid (by rw [← hO.out]; exact assign_again hok.out hne.out)
          replace hs16 := Lib.hid hs16
          refine wp_region_N [(0, 1), (1, 1), (2, 1), (3, 1), (4, 1), (5, 3), (6, 1), (7, 3), (8, 1), (9, 1), (10, 1), (11, 1), (12, 3), (13, 1), (14, 1), (15, 1), (16, 3), (17, 1), (18, 1)] (by kernel_rfl) ?_
          refine wpS_this [0, 1, 2, 3, 4] rfl (by kernel_rfl) (by simp only [pickL, nthL, List.cons_append, List.nil_append]; rfl) ?_
          repeat (go_big_quiet_step (fail))
          refine wpQuiet_nil ?_
          refine wpS_doesU2 (i := 5) (d := some 107) (rem := [_, _]) rfl (by rfl) rfl Try.call17 (DoesU.ofList (assign_d (listT [_, _]) _ _ O ms (rowL 0 rfl rdRow_reads) (rowL 1 rfl (rowOld hms)) (by omega))) rfl rfl HM37.out [0, 2] rfl covS_nil (fun _ => rfl) rfl ?_
          rintro u62 W61 hm60 -
          rw [hMe.out, hag.out] at hm60
          have HM63 := Lib.hid hm60
          clear hm60
          simp only [Act.put, List.setIfInBounds_toArray, List.set_cons_succ, List.set_cons_zero]
          refine wpS_this [6] rfl (by kernel_rfl) (by simp only [pickL, nthL, List.cons_append, List.nil_append]; rfl) ?_
          repeat (go_big_quiet_step (fail))
          refine wpQuiet_nil ?_
          refine wpS_does2 (i := 7) (d := some 109) (rem := [_, _, _]) (out := [_, _, _, _, _]) rfl (by rfl) rfl Try.call12 (Does.ofList (same_t (listT [_, _]) _ _ _ (rowL 0 rfl rdRow_reads) (rowL 1 rfl rdRow_reads) (by rw [hOn.out]; decide))) rfl rfl HM63.out [0, 0] rfl covS_nil rfl rfl ?_
          rintro W65 hm64 -
          have HM66 := Lib.hid hm64
          clear hm64
          simp only [Act.put, List.setIfInBounds_toArray, List.set_cons_succ, List.set_cons_zero]
          refine wpS_this [8, 9, 10, 11] rfl (by kernel_rfl) (by simp only [pickL, nthL, List.cons_append, List.nil_append]; rfl) ?_
          repeat (go_big_quiet_step (fail))
          refine wpQuiet_nil ?_
          refine wpS_does2 (i := 12) (d := some 114) (rem := [_, _, _, _]) (out := [_, _, _, _, _]) rfl (by rfl) rfl Try.call19 (moves_d (rdRow _ O) _ _ O O rdRow_reads rdRow_reads) rfl rfl HM66.out [1] rfl covS_nil rfl rfl ?_
          rintro W68 hm67 -
          rw [show ((movesOf O O : Nat) : Int) = 0 from by rw [moves_self]; rfl]
          have HM69 := Lib.hid hm67
          clear hm67
          simp only [Act.put, List.setIfInBounds_toArray, List.set_cons_succ, List.set_cons_zero]
          refine wpS_this [13, 14, 15] rfl (by kernel_rfl) (by simp only [pickL, nthL, List.cons_append, List.nil_append]; rfl) ?_
          repeat (go_big_quiet_step (fail))
          refine wpQuiet_nil ?_
          refine wpS_does0 (i := 16) (d := some 118) (rem := [_, _, _, _, _]) (out := [_, _, _, _, _]) rfl (by rfl) rfl Try.call11 (awake_d)  HM69.out [] rfl covS_nil rfl rfl ?_
          rintro W71 hm70 -
          have HM72 := Lib.hid hm70
          clear hm70
          simp only [Act.put, List.setIfInBounds_toArray, List.set_cons_succ, List.set_cons_zero]
          refine wpS_this [17, 18] rfl (by kernel_rfl) (by simp only [pickL, nthL, List.cons_append, List.nil_append]; rfl) ?_
          repeat (go_big_quiet_step (fail))
          refine wpQuiet_nil ?_
          refine wpS_nil ?_
          refine then_normal ?_
          refine wp_ret ?_
          refine bodyPost_ret (results_tmp rfl _ _ _) rfl ?_
          exact does_ret (Mem.only (M := [_]) HM72.out [2] rfl) rfl rfl

end Go.Proofs.Ytagpbmgeikjnjaa
