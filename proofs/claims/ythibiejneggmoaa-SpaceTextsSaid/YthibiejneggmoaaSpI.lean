/- Space: SpaceClaims. -/
import Derived.Test.YthibiejneggmoaaSpA
import Derived.Test.YthibiejneggmoaaClmH
namespace Go.Proofs.Ythibiejneggmoaa
open Go Go.RowKit Go.BigFrame

theorem quotas_len (now M : List Int) : (quotasOf now M).length = M.length := by simp [quotasOf]
theorem quotas_at {now M : List Int} {k : Nat} {m : Int} (h : M[k]? = some m) : (quotasOf now M)[k]? = some (quotaOf now M m) := by
  unfold quotasOf
  rw [List.getElem?_map, h]
  rfl
theorem cnt_take {O : List Int} {p : Nat} {x : Int} (h : O[p]? = some x) (m : Int) : (((O.take (p + 1)).count m : Nat) : Int) = ((O.take p).count m : Nat) + (if x = m then 1 else 0) := by
  rw [List.take_add_one, h, Option.toList_some, count_snoc]
  split <;> simp
theorem sum_take {M : List Int} (f : Int → Int) {k : Nat} {m : Int} (h : M[k]? = some m) : ((M.take (k + 1)).map f).sum = ((M.take k).map f).sum + f m := by
  rw [map_take_succ f h, List.sum_append]
  simp
theorem qsum_le (now M : List Int) : ∀ l : List Int, 0 ≤ (l.map (quotaOf now M)).sum ∧ (l.map (quotaOf now M)).sum ≤ 17 * l.length
  | [] => by simp
  | x :: l => by
    have h1 := qsum_le now M l
    have h2 := quota_range now M x
    have h3 : 16 / M.length ≤ 16 := Nat.div_le_self _ _
    simp only [List.map_cons, List.sum_cons, List.length_cons]
    generalize 16 / M.length = z at *
    omega
theorem qsum_take (now M : List Int) (k : Nat) (hk : k ≤ 8) : 0 ≤ ((M.take k).map (quotaOf now M)).sum ∧ ((M.take k).map (quotaOf now M)).sum ≤ 136 := by
  have h1 := qsum_le now M (M.take k)
  have h2 : (M.take k).length ≤ k := by rw [List.length_take]; omega
  omega
theorem whoL_is {T : List Int} {n : Int} (h : nodeE n = true) (p : Nat) : (whoL T p == n) = (atL T p == n) := by
  have h1 := nodeE_iff.1 h
  cases hp : nodeE (atL T p)
  · rw [whoL_none hp]
    have : atL T p ≠ n := fun e => by rw [e, h] at hp; cases hp
    rw [beq_eq_false_iff_ne.2 this]
    exact beq_eq_false_iff_ne.2 (by omega)
  · rw [whoL_node hp]
theorem ctK_hasK {T : List Int} {n : Int} (h : nodeE n = true) : ctK (whoL T) n 16 = hasK T n 16 := by
  unfold ctK hasK
  refine List.countP_congr fun p _ => ?_
  rw [whoL_is h]
theorem cnt_assigned {now M O : List Int} (hok : MemOk M) (hA : Assigned now M O) {n : Int} (hn : n ∈ M) : cntI O n = quotaOf now M n := by
  unfold cntI
  rw [ctK_hasK (nodeE_iff.2 (hok.node n hn)), count_map hA.len]
  exact hA.cnt n hn
theorem cntI_nil {n : Int} (h : nodeE n = true) : cntI [] n = 0 := by
  have h1 := nodeE_iff.1 h
  unfold cntI ctK
  rw [show ((List.range 16).countP fun p => whoL [] p == n) = 0 from List.countP_eq_zero.2 fun p _ => by
    rw [whoL_out (Nat.zero_le p)]
    intro q
    have := beq_iff_eq.1 q
    omega]
  rfl
theorem assign_nil {now M : List Int} (h : M = []) : assignOf now M = [] := if_pos h
theorem claims_uneven {now ms M O : List Int} (hM : peersOf ms (-1) = M) (hO : assignOf now M = O) : unevI O ms ≤ 1 := by
  have hok : MemOk M := by rw [← hM]; exact peersOf_ok ms (-1)
  by_cases h0 : M = []
  · rw [assign_nil h0] at hO
    refine (unevI_one (lo := 0) fun n _ hn => ?_).2
    rw [← hO, cntI_nil hn]
    decide
  · have hA : Assigned now M O := by rw [← hO]; exact assigned hok h0
    refine (unevI_one (lo := ((16 / M.length : Nat) : Int)) fun n hn hnd => ?_).2
    have h1 := nodeE_iff.1 hnd
    have hm : n ∈ M := by rw [← hM]; exact peersOf_mem.2 ⟨h1, hn, by omega⟩
    rw [cnt_assigned hok hA hm]
    exact quota_range now M n
theorem a_len {now ms M O : List Int} (hM : peersOf ms (-1) = M) (hO : assignOf now M = O) : O.length ≤ 16 := by
  have hok : MemOk M := by rw [← hM]; exact peersOf_ok ms (-1)
  by_cases h0 : M = []
  · rw [← hO, assign_nil h0]; decide
  · have hA : Assigned now M O := by rw [← hO]; exact assigned hok h0
    rw [hA.len]
    exact Nat.le_refl _
set_option maxHeartbeats 4000000 in
set_option maxRecDepth 100000 in
theorem claims_d (W0 : World) (vnow : Value) (vms : Value) (now : List Int) (ms : List Int) (hnow : RowAt elemI W0 vnow now) (hms : RowAt elemI W0 vms ms) : Does Try.prog 5 #[vnow, vms] [oldT W0] (.bool true) [oldT W0] := by
  intro w H hp
  have HM0 := Lib.hid (mem_refl hp)
  clear hp
  obtain ⟨pnow, cnow, rfl⟩ := rd_form hnow
  obtain ⟨pms, cms, rfl⟩ := rd_form hms
  go_enter Try.func5, Try.ntmps5
  refine wp_seq ?_
  refine wp_region_N [(0, 1)] (by kernel_rfl) ?_
  refine wpS_this [0] rfl (by kernel_rfl) (by simp only [pickL, nthL, List.cons_append, List.nil_append]; rfl) ?_
  repeat (go_big_quiet_step (fail))
  refine wpQuiet_nil ?_
  refine wpS_nil ?_
  refine then_normal ?_
  refine wp_seq ?_
  refine wp_seq ?_
  rcases (show 100 < now.length ∨ (¬ 100 < now.length ∧ 100 < ms.length) ∨ (¬ 100 < now.length ∧ ¬ 100 < ms.length) from by omega) with h1 | ⟨h1, h2⟩ | ⟨h1, h2⟩
  · have g1 : decide ((100 : Int) < (now.length : Int)) = true := decide_eq_true (by omega)
    have g1' := decide_eq_true h1
    replace h1 := Lib.hid h1
    refine wp_region_N [(0, 1), (1, 1), (2, 1), (3, 1), (4, 1), (5, 1), (6, 1), (7, 1)] (by kernel_rfl) ?_
    refine wpS_this [0, 1, 2, 3, 4, 5, 6, 7] rfl (by kernel_rfl) (by simp only [pickL, nthL, List.cons_append, List.nil_append]; rfl) ?_
    repeat (go_big_quiet_step (fail))
    refine wpQuiet_nil ?_
    refine wpS_nil ?_
    refine then_normal ?_
    refine wp_cond_true rfl ?_
    refine wp_seq ?_
    refine wp_region_N [(0, 3), (1, 1)] (by kernel_rfl) ?_
    refine wpS_does0 (i := 0) (d := some 20) (rem := [_]) (out := [_]) rfl (by rfl) rfl Try.call7 (sawake_d)  HM0.out [] rfl covS_nil rfl rfl ?_
    rintro W2 hm1 -
    have HM3 := Lib.hid hm1
    clear hm1
    simp only [Act.put, List.setIfInBounds_toArray, List.set_cons_succ, List.set_cons_zero]
    refine wpS_this [1] rfl (by kernel_rfl) (by simp only [pickL, nthL, List.cons_append, List.nil_append]; rfl) ?_
    repeat (go_big_quiet_step (fail))
    refine wpQuiet_nil ?_
    refine wpS_nil ?_
    refine then_normal ?_
    refine wp_ret ?_
    refine then_ret ?_
    refine bodyPost_ret (results_tmp rfl _ _ _) rfl ?_
    exact does_ret (Mem.only (M := [_]) HM3.out [0] rfl) rfl rfl
  · have g1 : decide ((100 : Int) < (now.length : Int)) = false := decide_eq_false (by omega)
    have g2 : decide ((100 : Int) < (ms.length : Int)) = true := decide_eq_true (by omega)
    have g1' := decide_eq_false h1
    have g2' := decide_eq_true h2
    replace h1 := Lib.hid h1
    replace h2 := Lib.hid h2
    refine wp_region_N [(0, 1), (1, 1), (2, 1), (3, 1), (4, 1), (5, 1), (6, 1), (7, 1)] (by kernel_rfl) ?_
    refine wpS_this [0, 1, 2, 3, 4, 5, 6, 7] rfl (by kernel_rfl) (by simp only [pickL, nthL, List.cons_append, List.nil_append]; rfl) ?_
    repeat (go_big_quiet_step (fail))
    refine wpQuiet_nil ?_
    refine wpS_nil ?_
    refine then_normal ?_
    refine wp_cond_true rfl ?_
    refine wp_seq ?_
    refine wp_region_N [(0, 3), (1, 1)] (by kernel_rfl) ?_
    refine wpS_does0 (i := 0) (d := some 20) (rem := [_]) (out := [_]) rfl (by rfl) rfl Try.call7 (sawake_d)  HM0.out [] rfl covS_nil rfl rfl ?_
    rintro W5 hm4 -
    have HM6 := Lib.hid hm4
    clear hm4
    simp only [Act.put, List.setIfInBounds_toArray, List.set_cons_succ, List.set_cons_zero]
    refine wpS_this [1] rfl (by kernel_rfl) (by simp only [pickL, nthL, List.cons_append, List.nil_append]; rfl) ?_
    repeat (go_big_quiet_step (fail))
    refine wpQuiet_nil ?_
    refine wpS_nil ?_
    refine then_normal ?_
    refine wp_ret ?_
    refine then_ret ?_
    refine bodyPost_ret (results_tmp rfl _ _ _) rfl ?_
    exact does_ret (Mem.only (M := [_]) HM6.out [0] rfl) rfl rfl
  · have g1 : decide ((100 : Int) < (now.length : Int)) = false := decide_eq_false (by omega)
    have g2 : decide ((100 : Int) < (ms.length : Int)) = false := decide_eq_false (by omega)
    have g1' := decide_eq_false h1
    have g2' := decide_eq_false h2
    refine wp_region_N [(0, 1), (1, 1), (2, 1), (3, 1), (4, 1), (5, 1), (6, 1), (7, 1)] (by kernel_rfl) ?_
    refine wpS_this [0, 1, 2, 3, 4, 5, 6, 7] rfl (by kernel_rfl) (by simp only [pickL, nthL, List.cons_append, List.nil_append]; rfl) ?_
    repeat (go_big_quiet_step (fail))
    refine wpQuiet_nil ?_
    refine wpS_nil ?_
    refine then_normal ?_
    refine wp_cond_false rfl ?_
    refine wp_skip ?_
    refine then_normal ?_
    refine wp_seq ?_
    have hok0 := peersOf_ok ms (-1)
    obtain ⟨M, hMe'⟩ : ∃ x, peersOf ms (-1) = x := ⟨_, rfl⟩
    rw [hMe'] at hok0
    have hM8 : M.length ≤ 8 := by rw [← hMe']; exact peersOf_len8 _ _
    obtain ⟨O, hO'⟩ : ∃ x, assignOf now M = x := ⟨_, rfl⟩
    obtain ⟨q, hq'⟩ : ∃ x, quotasOf now M = x := ⟨_, rfl⟩
    have hqn : q.length = M.length := by rw [← hq']; exact quotas_len _ _
    have gq : ((q.length : Int) != (M.length : Int)) = false := by rw [hqn]; exact bne_self_eq_false _
    have gq' : (q.length != M.length) = false := by rw [hqn]; exact bne_self_eq_false _
    have hO1 : Hid (O.length ≤ 1000) := Lib.hid (Nat.le_trans (a_len hMe' hO') (by decide))
    have hu1 := claims_uneven hMe' hO'
    obtain ⟨uv, huv'⟩ := int_letter (unevI O ms)
    rw [huv'] at hu1
    have gu : decide (1 < uv) = false := decide_eq_false (by omega)
    clear hu1
    have hMe := Lib.hid hMe'
    clear hMe'
    have hO := Lib.hid hO'
    clear hO'
    have hq := Lib.hid hq'
    clear hq'
    have huv := Lib.hid huv'
    clear huv'
    have hok := Lib.hid hok0
    clear hok0
    replace hqn := Lib.hid hqn
    refine wp_region_N [(0, 1), (1, 1), (2, 3), (3, 1)] (by kernel_rfl) ?_
    refine wpS_this [0, 1] rfl (by kernel_rfl) (by simp only [pickL, nthL, List.cons_append, List.nil_append]; rfl) ?_
    repeat (go_big_quiet_step (fail))
    refine wpQuiet_nil ?_
    refine wpS_doesU2 (i := 2) (d := some 23) (rem := []) rfl (by rfl) rfl Try.call14 (assign_d (oldT W0) _ _ now ms (rowOld hnow) (rowOld hms) (by omega)) rfl rfl HM0.out [0] rfl covS_nil (fun _ => rfl) rfl ?_
    rintro u9 W8 hm7 -
    rw [hMe.out, hO.out] at hm7
    obtain ⟨lp, lc, rfl⟩ := rd_form (Mem.row hm7 0 rfl rdRow_reads)
    have HM10 := Lib.hid hm7
    clear hm7
    simp only [Act.put, List.setIfInBounds_toArray, List.set_cons_succ, List.set_cons_zero]
    refine wpS_this [3] rfl (by kernel_rfl) (by simp only [pickL, nthL, List.cons_append, List.nil_append]; rfl) ?_
    repeat (go_big_quiet_step (fail))
    refine wpQuiet_nil ?_
    refine wpS_nil ?_
    refine then_normal ?_
    refine wp_seq ?_
    refine wp_region_N [(0, 1), (1, 3), (2, 1)] (by kernel_rfl) ?_
    refine wpS_this [0] rfl (by kernel_rfl) (by simp only [pickL, nthL, List.cons_append, List.nil_append]; rfl) ?_
    repeat (go_big_quiet_step (fail))
    refine wpQuiet_nil ?_
    refine wpS_doesU1 (i := 1) (d := some 25) (rem := [_]) rfl (by rfl) rfl Try.call15 (members_d (oldT W0) _ ms (rowOld hms) (by omega)) rfl HM10.out [1] rfl covS_nil (fun _ => rfl) rfl ?_
    rintro u13 W12 hm11 -
    rw [hMe.out] at hm11
    obtain ⟨mp, mc, rfl⟩ := row_form (Mem.src hm11 0 rfl rowT_reads)
    have HM14 := Lib.hid hm11
    clear hm11
    simp only [Act.put, List.setIfInBounds_toArray, List.set_cons_succ, List.set_cons_zero]
    refine wpS_this [2] rfl (by kernel_rfl) (by simp only [pickL, nthL, List.cons_append, List.nil_append]; rfl) ?_
    repeat (go_big_quiet_step (fail))
    refine wpQuiet_nil ?_
    refine wpS_nil ?_
    refine then_normal ?_
    refine wp_seq ?_
    refine wp_region_N [(0, 1), (1, 1), (2, 3), (3, 1)] (by kernel_rfl) ?_
    refine wpS_this [0, 1] rfl (by kernel_rfl) (by simp only [pickL, nthL, List.cons_append, List.nil_append]; rfl) ?_
    repeat (go_big_quiet_step (fail))
    refine wpQuiet_nil ?_
    refine wpS_doesU2 (i := 2) (d := some 28) (rem := [_, _]) rfl (by rfl) rfl Try.call16 (quotas_d (oldT W0) _ _ now ms (rowOld hnow) (rowOld hms) (by omega)) rfl rfl HM14.out [1] rfl covS_nil (fun _ => rfl) rfl ?_
    rintro u17 W16 hm15 -
    rw [hMe.out, hq.out] at hm15
    obtain ⟨qp, qc, rfl⟩ := row_form (Mem.src hm15 0 rfl rowT_reads)
    have HM18 := Lib.hid hm15
    clear hm15
    simp only [Act.put, List.setIfInBounds_toArray, List.set_cons_succ, List.set_cons_zero]
    refine wpS_this [3] rfl (by kernel_rfl) (by simp only [pickL, nthL, List.cons_append, List.nil_append]; rfl) ?_
    repeat (go_big_quiet_step (fail))
    refine wpQuiet_nil ?_
    refine wpS_nil ?_
    refine then_normal ?_
    refine wp_seq ?_
    refine wp_region_N [(0, 1), (1, 3), (2, 1)] (by kernel_rfl) ?_
    refine wpS_this [0] rfl (by kernel_rfl) (by simp only [pickL, nthL, List.cons_append, List.nil_append]; rfl) ?_
    repeat (go_big_quiet_step (fail))
    refine wpQuiet_nil ?_
    refine wpS_doesU1 (i := 1) (d := some 30) (rem := [_, _, _]) rfl (by rfl) rfl Try.call10 (spcnt_d (rdRow _ O) _ O rdRow_reads hO1.out) rfl HM18.out [3] rfl covS_nil (fun _ => rfl) rfl ?_
    rintro u21 W20 hm19 -
    obtain ⟨pcc, ccc, hm19q⟩ := cnt_formD hm19
    obtain ⟨rfl, hm19r⟩ := hm19q
    clear hm19
    have HM22 := Lib.hid hm19r
    clear hm19r
    simp only [Act.put, List.setIfInBounds_toArray, List.set_cons_succ, List.set_cons_zero]
    refine wpS_this [2] rfl (by kernel_rfl) (by simp only [pickL, nthL, List.cons_append, List.nil_append]; rfl) ?_
    repeat (go_big_quiet_step (fail))
    refine wpQuiet_nil ?_
    refine wpS_nil ?_
    refine then_normal ?_
    refine wp_seq ?_
    refine wp_seq ?_
    refine wp_region_N [(0, 1), (1, 1), (2, 1), (3, 1), (4, 1), (5, 1), (6, 1), (7, 1), (8, 1), (9, 1), (10, 1), (11, 1), (12, 1), (13, 3), (14, 1), (15, 1)] (by kernel_rfl) ?_
    refine wpS_this [0, 1, 2, 3, 4, 5, 6, 7, 8, 9, 10, 11, 12] rfl (by kernel_rfl) (by simp only [pickL, nthL, List.cons_append, List.nil_append]; rfl) ?_
    repeat (go_big_quiet_step (fail))
    refine wpQuiet_nil ?_
    refine wpS_does2 (i := 13) (d := some 44) (rem := [_, _, _]) (out := [_, _, _, _, _]) rfl (by rfl) rfl Try.call13 (Does.ofList (spunev_d (listT [_, _]) _ _ O ms (rowL 0 rfl rdRow_reads) hO1.out (rowL 1 rfl (rowOld hms)) (by omega))) rfl rfl HM22.out [1, 2] rfl covS_nil rfl rfl ?_
    rintro W24 hm23 -
    rw [huv.out]
    have HM25 := Lib.hid hm23
    clear hm23
    simp only [Act.put, List.setIfInBounds_toArray, List.set_cons_succ, List.set_cons_zero]
    refine wpS_this [14, 15] rfl (by kernel_rfl) (by simp only [pickL, nthL, List.cons_append, List.nil_append]; rfl) ?_
    repeat (go_big_quiet_step (fail))
    refine wpQuiet_nil ?_
    refine wpS_nil ?_
    refine then_normal ?_
    refine wp_cond_false rfl ?_
    refine wp_skip ?_
    refine then_normal ?_
    refine wp_seq ?_
    refine wp_region_N [(0, 1)] (by kernel_rfl) ?_
    refine wpS_this [0] rfl (by kernel_rfl) (by simp only [pickL, nthL, List.cons_append, List.nil_append]; rfl) ?_
    repeat (go_big_quiet_step (fail))
    refine wpQuiet_nil ?_
    refine wpS_nil ?_
    refine then_normal ?_
    refine wp_seq ?_
    refine wp_seq ?_
    refine wp_region_N [(0, 1), (1, 1), (2, 1)] (by kernel_rfl) ?_
    refine wpS_this [0, 1, 2] rfl (by kernel_rfl) (by simp only [pickL, nthL, List.cons_append, List.nil_append]; rfl) ?_
    repeat (go_big_quiet_step (fail))
    refine wpQuiet_nil ?_
    refine wpS_nil ?_
    refine then_normal ?_
    refine wp_block ?_
    refine wp_loop_F [4, 9, 10, 11, 49, 50, 51, 52, 53, 54, 55, 56, 57, 58, 59, 60, 61, 62, 63, 64, 65, 66, 67, 68, 69, 70, 71, 72, 73, 74, 75, 76, 77] (fun n vs W' => ∃ k : Nat, n = M.length - k ∧ vs 49 = .int .i64 (k : Int) ∧ vs 9 = .int .i64 ((M.take k).map (quotaOf now M)).sum ∧ k ≤ M.length ∧ Mem [rdRow (.slice pcc 8 ccc) (cntL O), rowT elemI (.slice qp q.length qc) q, rowT elemI (.slice mp M.length mc) M, rdRow (.slice lp O.length lc) O, oldT W0] H w W') (n0 := M.length) ?_ ?_
    · exact ⟨0, rfl, rfl, rfl, Nat.zero_le _, (Mem.only (M := [_, _, _, _, _]) HM25.out [2, 2, 2, 0, 0] rfl)⟩
    rintro n vs W' ⟨k, rfl, e49, e9, hk, hmm⟩
    simp only [putAll, List.map_cons, List.map_nil, Act.put, List.setIfInBounds_toArray, List.set_cons_succ, List.set_cons_zero]
    rw [e49, e9]
    clear e49 e9
    have hsb := qsum_take now M k (by omega)
    obtain ⟨s0, hs0'⟩ : ∃ z : Int, ((M.take k).map (quotaOf now M)).sum = z := ⟨_, rfl⟩
    rw [hs0'] at hsb
    rw [hs0']
    obtain ⟨hsb0, hsb1⟩ := hsb
    have hs0 := Lib.hid hs0'
    clear hs0'
    have HM26 := Lib.hid hmm
    clear hmm
    refine wp_seq ?_
    refine wp_region_N [(0, 1)] (by kernel_rfl) ?_
    refine wpS_this [0] rfl (by kernel_rfl) (by simp only [pickL, nthL, List.cons_append, List.nil_append]; rfl) ?_
    repeat (go_big_quiet_step (fail))
    refine wpQuiet_nil ?_
    refine wpS_nil ?_
    refine then_normal ?_
    refine wp_seq ?_
    refine wp_cond_split rfl (fun h27 => ?_) (fun h27 => ?_)
    · have hk1 : k + 1 ≤ M.length := by have : (k : Int) < ((M.length : Nat) : Int) := (by simpa using h27); omega
      clear h27
      obtain ⟨x0, hx0⟩ : ∃ y, M[k]? = some y := ⟨_, List.getElem?_eq_getElem hk1⟩
      have hxm := List.mem_of_getElem? hx0
      have hxr := hok.out.node x0 hxm
      obtain ⟨xn, rfl⟩ := Int.eq_ofNat_of_zero_le hxr.1
      have hx8 : xn < 8 := by omega
      have hne : M ≠ [] := fun e => by rw [e] at hxm; cases hxm
      have hA : Assigned now M O := by rw [← hO.out]; exact assigned hok.out hne
      have hcq := cnt_assigned hok.out hA hxm
      obtain ⟨qv, hqv'⟩ := int_letter (quotaOf now M (xn : Int))
      have hqr := quota_range now M (xn : Int)
      have hdv : 16 / M.length ≤ 16 := Nat.div_le_self _ _
      have hqz := quota_pos now M (xn : Int)
      rw [hqv'] at hcq hqr hqz
      have hcx : Hid ((cntL O)[xn]? = some qv) := Lib.hid (by rw [cntL_at hx8, ← hcq]; rfl)
      have hqk : Hid (q[k]? = some qv) := Lib.hid (by rw [← hq.out, quotas_at hx0, hqv'])
      have hqb : 0 ≤ qv ∧ qv ≤ 17 := by omega
      obtain ⟨hqb0, hqb1⟩ := hqb
      have hx := Lib.hid hx0
      have gx0 : decide ((xn : Int) < 0) = false := decide_eq_false (by omega)
      have gx8 : decide ((8 : Int) ≤ (xn : Int)) = false := decide_eq_false (by omega)
      have gx8' : decide (8 ≤ xn) = false := decide_eq_false (by omega)
      have gqq : (qv != qv) = false := bne_self_eq_false _
      clear hx0 hxm hxr hne hcq hqr hqz hdv hA
      have hqv := Lib.hid hqv'
      clear hqv'
      refine wp_skip ?_
      refine then_normal ?_
      refine wp_seq ?_
      refine wp_block ?_
      refine wp_seq ?_
      refine wp_region_N [(0, 1), (1, 1), (2, 1), (3, 1), (4, 1)] (by kernel_rfl) ?_
      refine wpS_this [0] rfl (by kernel_rfl) (by simp only [pickL, nthL, List.cons_append, List.nil_append]; rfl) ?_
      repeat (go_big_quiet_step (fail))
      refine wpQuiet_nil ?_
      refine wpS_index (E := elemI) (i := 1) (d := some 52) rfl (by rfl) rfl rfl rfl (HM26.out.row 2 rfl rowOwn) (hx.out) rfl ?_
      intro eb28 eo29 hc30
      simp only [Act.put, List.setIfInBounds_toArray, List.set_cons_succ, List.set_cons_zero]
      refine wpS_load1 (i := 2) (d := some 53) (u := .int .i64 (xn : Int)) rfl (by rfl) rfl rfl (hc30 0 _ rfl) Try.underlying3 rfl rfl ?_
      simp only [Act.put, List.setIfInBounds_toArray, List.set_cons_succ, List.set_cons_zero]
      refine wpS_this [3, 4] rfl (by kernel_rfl) (by simp only [pickL, nthL, List.cons_append, List.nil_append]; rfl) ?_
      repeat (go_big_quiet_step (fail))
      refine wpQuiet_nil ?_
      refine wpS_nil ?_
      refine then_normal ?_
      refine wp_seq ?_
      refine wp_seq ?_
      refine wp_region_M (fun k => k ∈ ([] : List Nat)) [(0, 1), (1, 1), (2, 1), (3, 1), (4, 1), (5, 1), (6, 1), (7, 1), (8, 1), (9, 1), (10, 1), (11, 1), (12, 1), (13, 1), (14, 1), (15, 1), (16, 1)] (by kernel_rfl) (by kernel_rfl) HM26.out ?_
      intro W31 hm32
      have HM33 := Lib.hid hm32
      clear hm32
      refine wpS_this [0, 1, 2, 3, 4, 5, 6, 7, 8] rfl (by kernel_rfl) (by simp only [pickL, nthL, List.cons_append, List.nil_append]; rfl) ?_
      repeat (go_big_quiet_step (fail))
      refine wpQuiet_nil ?_
      refine wpS_index (E := elemI) (i := 9) (d := some 63) rfl (by rfl) rfl rfl rfl (HM33.out.row 0 rfl rdRow_reads) (hcx.out) rfl ?_
      intro eb34 eo35 hc36
      simp only [Act.put, List.setIfInBounds_toArray, List.set_cons_succ, List.set_cons_zero]
      refine wpS_load1 (i := 10) (d := some 64) (u := .int .i64 qv) rfl (by rfl) rfl rfl (hc36 0 _ rfl) Try.underlying3 rfl rfl ?_
      simp only [Act.put, List.setIfInBounds_toArray, List.set_cons_succ, List.set_cons_zero]
      refine wpS_this [11, 12] rfl (by kernel_rfl) (by simp only [pickL, nthL, List.cons_append, List.nil_append]; rfl) ?_
      repeat (go_big_quiet_step (fail))
      refine wpQuiet_nil ?_
      refine wpS_index (E := elemI) (i := 13) (d := some 67) rfl (by rfl) rfl rfl rfl (HM33.out.row 1 rfl rowOwn) (hqk.out) rfl ?_
      intro eb37 eo38 hc39
      simp only [Act.put, List.setIfInBounds_toArray, List.set_cons_succ, List.set_cons_zero]
      refine wpS_load1 (i := 14) (d := some 68) (u := .int .i64 qv) rfl (by rfl) rfl rfl (hc39 0 _ rfl) Try.underlying3 rfl rfl ?_
      simp only [Act.put, List.setIfInBounds_toArray, List.set_cons_succ, List.set_cons_zero]
      refine wpS_this [15, 16] rfl (by kernel_rfl) (by simp only [pickL, nthL, List.cons_append, List.nil_append]; rfl) ?_
      repeat (go_big_quiet_step (fail))
      refine wpQuiet_nil ?_
      refine wpS_nil ?_
      refine then_normal ?_
      refine wp_cond_false rfl ?_
      refine wp_skip ?_
      refine then_normal ?_
      refine wp_region_N [(0, 1), (1, 1), (2, 1), (3, 1), (4, 1), (5, 1), (6, 1)] (by kernel_rfl) ?_
      refine wpS_this [0, 1, 2] rfl (by kernel_rfl) (by simp only [pickL, nthL, List.cons_append, List.nil_append]; rfl) ?_
      repeat (go_big_quiet_step (fail))
      refine wpQuiet_nil ?_
      refine wpS_index (E := elemI) (i := 3) (d := some 74) rfl (by rfl) rfl rfl rfl (HM33.out.row 0 rfl rdRow_reads) (hcx.out) rfl ?_
      intro eb40 eo41 hc42
      simp only [Act.put, List.setIfInBounds_toArray, List.set_cons_succ, List.set_cons_zero]
      refine wpS_load1 (i := 4) (d := some 75) (u := .int .i64 qv) rfl (by rfl) rfl rfl (hc42 0 _ rfl) Try.underlying3 rfl rfl ?_
      simp only [Act.put, List.setIfInBounds_toArray, List.set_cons_succ, List.set_cons_zero]
      refine wpS_this [5, 6] rfl (by kernel_rfl) (by simp only [pickL, nthL, List.cons_append, List.nil_append]; rfl) ?_
      repeat (go_big_quiet_step (fail))
      refine wpQuiet_nil ?_
      refine wpS_nil ?_
      refine block_normal ?_
      refine then_normal ?_
      refine wp_region_N [(0, 1), (1, 1)] (by kernel_rfl) ?_
      refine wpS_this [0, 1] rfl (by kernel_rfl) (by simp only [pickL, nthL, List.cons_append, List.nil_append]; rfl) ?_
      repeat (go_big_quiet_step (fail))
      refine wpQuiet_nil ?_
      refine wpS_nil ?_
      refine then_normal ?_
      refine ⟨by kernel_rfl, ?_⟩
      refine ⟨M.length - (k + 1), by omega, k + 1, rfl, rfl, ?_, hk1, (Mem.only (M := [_, _, _, _, _]) HM33.out [0, 0, 0, 0, 0] rfl)⟩
      rw [sum_take _ hx.out, hs0.out, hqv.out]
      rfl
    · have hgeM : Hid (M.length ≤ k) := Lib.hid (by have : ¬ (k : Int) < (M.length : Int) := (by simpa using h27); omega)
      clear h27
      refine wp_exit ?_
      refine then_exit (then_exit (block_exit ?_))
      refine then_normal ?_
      refine wp_seq ?_
      have hkm : k = M.length := by have := hgeM.out; omega
      by_cases h0 : M.length = 0
      · have g17 : ((M.length : Int) == 0) = true := beq_iff_eq.2 (by omega)
        have g17' : (M.length == 0) = true := beq_iff_eq.2 h0
        refine wp_region_N [(0, 1), (1, 1), (2, 1), (3, 1), (4, 1), (5, 1), (6, 1), (7, 1), (8, 3), (9, 1), (10, 1)] (by kernel_rfl) ?_
        refine wpS_this [0, 1, 2, 3, 4, 5, 6, 7] rfl (by kernel_rfl) (by simp only [pickL, nthL, List.cons_append, List.nil_append]; rfl) ?_
        repeat (go_big_quiet_step (fail))
        refine wpQuiet_nil ?_
        refine wpS_does0 (i := 8) (d := some 86) (rem := [_, _, _, _, _]) (out := [_, _, _, _, _]) rfl (by rfl) rfl Try.call7 (sawake_d)  HM26.out [] rfl covS_nil rfl rfl ?_
        rintro W44 hm43 -
        have HM45 := Lib.hid hm43
        clear hm43
        simp only [Act.put, List.setIfInBounds_toArray, List.set_cons_succ, List.set_cons_zero]
        refine wpS_this [9, 10] rfl (by kernel_rfl) (by simp only [pickL, nthL, List.cons_append, List.nil_append]; rfl) ?_
        repeat (go_big_quiet_step (fail))
        refine wpQuiet_nil ?_
        refine wpS_nil ?_
        refine then_normal ?_
        refine wp_ret ?_
        refine bodyPost_ret (results_tmp rfl _ _ _) rfl ?_
        exact does_ret (Mem.only (M := [_]) HM45.out [4] rfl) rfl rfl
      · have g17 : ((M.length : Int) == 0) = false := beq_eq_false_iff_ne.2 (by omega)
        have g17' : (M.length == 0) = false := beq_eq_false_iff_ne.2 h0
        have gs : (s0 == 16) = true := beq_iff_eq.2 (by rw [← hs0.out, hkm, List.take_length]; exact quota_sum hok.out.nodup (fun e => h0 (by rw [e]; rfl)))
        replace h0 := Lib.hid h0
        replace hkm := Lib.hid hkm
        refine wp_region_N [(0, 1), (1, 1), (2, 1), (3, 1), (4, 1), (5, 1), (6, 1), (7, 1), (8, 3), (9, 1), (10, 1)] (by kernel_rfl) ?_
        refine wpS_this [0, 1, 2, 3, 4, 5, 6, 7] rfl (by kernel_rfl) (by simp only [pickL, nthL, List.cons_append, List.nil_append]; rfl) ?_
        repeat (go_big_quiet_step (fail))
        refine wpQuiet_nil ?_
        refine wpS_does0 (i := 8) (d := some 86) (rem := [_, _, _, _, _]) (out := [_, _, _, _, _]) rfl (by rfl) rfl Try.call7 (sawake_d)  HM26.out [] rfl covS_nil rfl rfl ?_
        rintro W47 hm46 -
        have HM48 := Lib.hid hm46
        clear hm46
        simp only [Act.put, List.setIfInBounds_toArray, List.set_cons_succ, List.set_cons_zero]
        refine wpS_this [9, 10] rfl (by kernel_rfl) (by simp only [pickL, nthL, List.cons_append, List.nil_append]; rfl) ?_
        repeat (go_big_quiet_step (fail))
        refine wpQuiet_nil ?_
        refine wpS_nil ?_
        refine then_normal ?_
        refine wp_ret ?_
        refine bodyPost_ret (results_tmp rfl _ _ _) rfl ?_
        exact does_ret (Mem.only (M := [_]) HM48.out [4] rfl) rfl rfl

end Go.Proofs.Ythibiejneggmoaa
