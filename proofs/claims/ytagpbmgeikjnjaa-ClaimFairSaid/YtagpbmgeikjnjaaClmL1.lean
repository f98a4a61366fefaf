/- ClaimStays: its walk. -/
import Derived.Test.YtagpbmgeikjnjaaClmK
namespace Go.Proofs.Ytagpbmgeikjnjaa
open Go Go.RowKit Go.BigFrame

theorem src_cap {W : World} {p : Option Addr} {n c : Nat} {l : List Int} (h : SrcE elemI W (.slice p n c) l) : n ≤ c ∧ l.length = n := by
  obtain ⟨_, p2, c2, he, hl, _⟩ := h
  simp only [Value.slice.injEq] at he
  obtain ⟨_, rfl, rfl⟩ := he
  exact ⟨hl, rfl⟩
def kptK (now O : List Int) (m : Int) (p : Nat) : Nat := (List.range p).countP fun p => atL now p == m && atL O p == m
theorem kptK_succ (now O : List Int) (m : Int) (p : Nat) : kptK now O m (p + 1) = kptK now O m p + (if atL now p = m ∧ atL O p = m then 1 else 0) := by
  unfold kptK
  rw [List.range_succ, List.countP_append]
  by_cases h1 : atL now p = m <;> by_cases h2 : atL O p = m <;> simp [h1, h2]
theorem kptK_le (now O : List Int) (m : Int) (p : Nat) : kptK now O m p ≤ p := by
  unfold kptK
  have := List.countP_le_length (p := fun p => atL now p == m && atL O p == m) (l := List.range p)
  rwa [List.length_range] at this
theorem kptK_end (now O : List Int) (m : Int) : kptK now O m 16 = keptC now O m := rfl
def stK (now O M : List Int) (k : Nat) : Nat := ((M.take k).map (keptC now O)).sum
theorem stK_succ {now O M : List Int} {k : Nat} {m : Int} (h : M[k]? = some m) : stK now O M (k + 1) = stK now O M k + keptC now O m := by
  unfold stK
  rw [List.take_add_one, h, Option.toList_some, List.map_append, List.sum_append]
  simp
theorem stK_le (now O M : List Int) : ∀ k, k ≤ M.length → stK now O M k ≤ 16 * k
  | 0, _ => by simp [stK]
  | k + 1, hk => by
    have h1 := stK_le now O M k (by omega)
    have h2 := kptK_le now O (M[k]'(by omega)) 16
    rw [kptK_end] at h2
    rw [stK_succ (List.getElem?_eq_getElem (by omega))]
    omega
theorem stK_end (now O M : List Int) : stK now O M M.length = (M.map (keptC now O)).sum := by
  unfold stK
  rw [List.take_length]
theorem atL_take {now : List Int} {n p : Nat} (h : p < n) : atL (now.take n) p = atL now p := by
  unfold atL
  rw [List.getD_eq_getElem?_getD, List.getD_eq_getElem?_getD, List.getElem?_take_of_lt h]
theorem moves_take (O now : List Int) (n : Nat) (h : 16 ≤ n ∨ now.length ≤ n) : movesOf O (now.take n) = movesOf O now := by
  rcases h with h | h
  · unfold movesOf
    refine List.countP_congr fun p hp => ?_
    rw [atL_take (by have := List.mem_range.1 hp; omega)]
  · rw [List.take_of_length_le h]
set_option maxHeartbeats 4000000 in
set_option maxRecDepth 100000 in
theorem stays_d (W0 : World) (vnow : Value) (vms : Value) (now : List Int) (ms : List Int) (hnow : RowAt elemI W0 vnow now) (hms : RowAt elemI W0 vms ms) (hsnow' : SrcE elemI W0 vnow now) : Does Try.prog 5 #[vnow, vms] [oldT W0] (.bool true) [oldT W0] := by
  intro w H hp
  have HM0 := Lib.hid (mem_refl hp)
  clear hp
  have hsnow := hsnow'
  clear hsnow'
  obtain ⟨pnow, cnow, rfl⟩ := rd_form hnow
  obtain ⟨pms, cms, rfl⟩ := rd_form hms
  go_enter Try.func5, Try.ntmps5
  refine wp_seq ?_
  refine wp_region_N [(0, 1)] (by kernel_rfl) ?_
  refine wpS_this [0] rfl (by kernel_rfl) (by simp only [pickL, nthL, List.cons_append, List.nil_append]; rfl) ?_
  repeat (go_big_quiet_step (fail))
  refine wpQuiet_nil ?_
  refine wpS_nil ?_
  refine then_normal ?_
  refine wp_seq ?_
  refine wp_seq ?_
  cases hfw : fewB [⟨pnow, now.length, cnow⟩, ⟨pms, ms.length, cms⟩]
  · skip
    refine wp_region_N [(0, 1), (1, 1), (2, 3), (3, 3), (4, 1)] (by kernel_rfl) ?_
    refine wpS_this [0, 1] rfl (by kernel_rfl) (by simp only [pickL, nthL, List.cons_append, List.nil_append]; rfl) ?_
    repeat (go_big_quiet_step (fail))
    refine wpQuiet_nil ?_
    refine wpS_buildN elemS (i := 2) (dd := 17) (n := 2) (xs := [⟨pnow, now.length, cnow⟩, ⟨pms, ms.length, cms⟩]) (cs := #[.slice pnow now.length cnow, .slice pms ms.length cms]) rfl (by rfl) (fun _ => by kernel_rfl) rfl rfl HM0.out covS_nil rfl ?_
    rintro b3 W4 hm5 -
    have HM6 := Lib.hid hm5
    clear hm5
    simp only [Act.put, List.setIfInBounds_toArray, List.set_cons_succ, List.set_cons_zero]
    refine wpS_does1 (i := 3) (d := some 18) (rem := [_]) (out := [_, _]) rfl (by rfl) rfl Try.call10 (few_d (rowT elemS _ _) _ [⟨pnow, now.length, cnow⟩, ⟨pms, ms.length, cms⟩] rowS (by simp)) rfl HM6.out [0] rfl covS_nil rfl rfl ?_
    rintro W8 hm7 -
    rw [hfw]
    have HM9 := Lib.hid hm7
    clear hm7
    simp only [Act.put, List.setIfInBounds_toArray, List.set_cons_succ, List.set_cons_zero]
    refine wpS_this [4] rfl (by kernel_rfl) (by simp only [pickL, nthL, List.cons_append, List.nil_append]; rfl) ?_
    repeat (go_big_quiet_step (fail))
    refine wpQuiet_nil ?_
    refine wpS_nil ?_
    refine then_normal ?_
    refine wp_cond_true rfl ?_
    refine wp_seq ?_
    refine wp_region_N [(0, 3), (1, 1)] (by kernel_rfl) ?_
    refine wpS_does0 (i := 0) (d := some 20) (rem := [_, _]) (out := [_, _]) rfl (by rfl) rfl Try.call11 (awake_d)  HM9.out [] rfl covS_nil rfl rfl ?_
    rintro W11 hm10 -
    have HM12 := Lib.hid hm10
    clear hm10
    simp only [Act.put, List.setIfInBounds_toArray, List.set_cons_succ, List.set_cons_zero]
    refine wpS_this [1] rfl (by kernel_rfl) (by simp only [pickL, nthL, List.cons_append, List.nil_append]; rfl) ?_
    repeat (go_big_quiet_step (fail))
    refine wpQuiet_nil ?_
    refine wpS_nil ?_
    refine then_normal ?_
    refine wp_ret ?_
    refine then_ret ?_
    refine bodyPost_ret (results_tmp rfl _ _ _) rfl ?_
    exact does_ret (Mem.only (M := [_]) HM12.out [1] rfl) rfl rfl
  · have hbb : now.length ≤ 100 ∧ ms.length ≤ 100 := by simpa [fewB] using hfw
    obtain ⟨hbnow, hbms⟩ := hbb
    refine wp_region_N [(0, 1), (1, 1), (2, 3), (3, 3), (4, 1)] (by kernel_rfl) ?_
    refine wpS_this [0, 1] rfl (by kernel_rfl) (by simp only [pickL, nthL, List.cons_append, List.nil_append]; rfl) ?_
    repeat (go_big_quiet_step (fail))
    refine wpQuiet_nil ?_
    refine wpS_buildN elemS (i := 2) (dd := 17) (n := 2) (xs := [⟨pnow, now.length, cnow⟩, ⟨pms, ms.length, cms⟩]) (cs := #[.slice pnow now.length cnow, .slice pms ms.length cms]) rfl (by rfl) (fun _ => by kernel_rfl) rfl rfl HM0.out covS_nil rfl ?_
    rintro b15 W16 hm17 -
    have HM18 := Lib.hid hm17
    clear hm17
    simp only [Act.put, List.setIfInBounds_toArray, List.set_cons_succ, List.set_cons_zero]
    refine wpS_does1 (i := 3) (d := some 18) (rem := [_]) (out := [_, _]) rfl (by rfl) rfl Try.call10 (few_d (rowT elemS _ _) _ [⟨pnow, now.length, cnow⟩, ⟨pms, ms.length, cms⟩] rowS (by simp)) rfl HM18.out [0] rfl covS_nil rfl rfl ?_
    rintro W20 hm19 -
    rw [hfw]
    have HM21 := Lib.hid hm19
    clear hm19
    simp only [Act.put, List.setIfInBounds_toArray, List.set_cons_succ, List.set_cons_zero]
    refine wpS_this [4] rfl (by kernel_rfl) (by simp only [pickL, nthL, List.cons_append, List.nil_append]; rfl) ?_
    repeat (go_big_quiet_step (fail))
    refine wpQuiet_nil ?_
    refine wpS_nil ?_
    refine then_normal ?_
    refine wp_cond_false rfl ?_
    refine wp_skip ?_
    refine then_normal ?_
    refine wp_seq ?_
    refine wp_region_N [(0, 1), (1, 3), (2, 1)] (by kernel_rfl) ?_
    refine wpS_this [0] rfl (by kernel_rfl) (by simp only [pickL, nthL, List.cons_append, List.nil_append]; rfl) ?_
    repeat (go_big_quiet_step (fail))
    refine wpQuiet_nil ?_
    refine wpS_doesU1 (i := 1) (d := some 22) (rem := [_]) rfl (by rfl) rfl Try.call13 (members_d (oldT W0) _ ms (rowOld hms) (by omega)) rfl HM21.out [1] rfl covS_nil (fun _ => rfl) rfl ?_
    rintro u24 W23 hm22 -
    have hok := peersOf_ok ms (-1)
    obtain ⟨M, hMe'⟩ : ∃ x, peersOf ms (-1) = x := ⟨_, rfl⟩
    rw [hMe'] at hm22 hok
    obtain ⟨mp, mc, rfl⟩ := row_form (Mem.src hm22 0 rfl rowT_reads)
    have hM8 : M.length ≤ 8 := by rw [← hMe']; exact peersOf_len8 _ _
    have hok := Lib.hid hok
    have hMe := Lib.hid hMe'
    clear hMe'
    have HM25 := Lib.hid hm22
    clear hm22
    simp only [Act.put, List.setIfInBounds_toArray, List.set_cons_succ, List.set_cons_zero]
    refine wpS_this [2] rfl (by kernel_rfl) (by simp only [pickL, nthL, List.cons_append, List.nil_append]; rfl) ?_
    repeat (go_big_quiet_step (fail))
    refine wpQuiet_nil ?_
    refine wpS_nil ?_
    refine then_normal ?_
    refine wp_seq ?_
    refine wp_region_N [(0, 1), (1, 1), (2, 3), (3, 1)] (by kernel_rfl) ?_
    refine wpS_this [0, 1] rfl (by kernel_rfl) (by simp only [pickL, nthL, List.cons_append, List.nil_append]; rfl) ?_
    repeat (go_big_quiet_step (fail))
    refine wpQuiet_nil ?_
    refine wpS_doesU2 (i := 2) (d := some 25) (rem := [_, _]) rfl (by rfl) rfl Try.call17 (assign_d (oldT W0) _ _ now ms (rowOld hnow) (rowOld hms) (by omega)) rfl rfl HM25.out [1] rfl covS_nil (fun _ => rfl) rfl ?_
    rintro u28 W27 hm26 -
    rw [hMe.out] at hm26
    obtain ⟨O, hO'⟩ : ∃ x, assignOf now M = x := ⟨_, rfl⟩
    rw [hO'] at hm26
    obtain ⟨lp, lc, rfl⟩ := rd_form (Mem.row hm26 0 rfl rdRow_reads)
    have hO := Lib.hid hO'
    clear hO'
    have HM29 := Lib.hid hm26
    clear hm26
    simp only [Act.put, List.setIfInBounds_toArray, List.set_cons_succ, List.set_cons_zero]
    refine wpS_this [3] rfl (by kernel_rfl) (by simp only [pickL, nthL, List.cons_append, List.nil_append]; rfl) ?_
    repeat (go_big_quiet_step (fail))
    refine wpQuiet_nil ?_
    refine wpS_nil ?_
    refine then_normal ?_
    refine wp_seq ?_
    refine wp_region_N [(0, 1), (1, 1), (2, 3), (3, 1)] (by kernel_rfl) ?_
    refine wpS_this [0, 1] rfl (by kernel_rfl) (by simp only [pickL, nthL, List.cons_append, List.nil_append]; rfl) ?_
    repeat (go_big_quiet_step (fail))
    refine wpQuiet_nil ?_
    refine wpS_doesU2 (i := 2) (d := some 28) (rem := [_, _, _]) rfl (by rfl) rfl Try.call15 (quotas_d (oldT W0) _ _ now ms (rowOld hnow) (rowOld hms) (by omega)) rfl rfl HM29.out [1] rfl covS_nil (fun _ => rfl) rfl ?_
    rintro u32 W31 hm30 -
    rw [hMe.out] at hm30
    obtain ⟨q, hq'⟩ : ∃ x, quotasOf now M = x := ⟨_, rfl⟩
    rw [hq'] at hm30
    obtain ⟨qp, qc, rfl⟩ := row_form (Mem.src hm30 0 rfl rowT_reads)
    have hqn : q.length = M.length := by rw [← hq']; exact quotas_len _ _
    have hqq := Lib.hid hq'
    clear hq'
    have hqn := Lib.hid hqn
    have HM33 := Lib.hid hm30
    clear hm30
    simp only [Act.put, List.setIfInBounds_toArray, List.set_cons_succ, List.set_cons_zero]
    refine wpS_this [3] rfl (by kernel_rfl) (by simp only [pickL, nthL, List.cons_append, List.nil_append]; rfl) ?_
    repeat (go_big_quiet_step (fail))
    refine wpQuiet_nil ?_
    refine wpS_nil ?_
    refine then_normal ?_
    refine wp_seq ?_
    refine wp_seq ?_
    by_cases h0 : M.length = 0
    · have h0e : M = [] := List.eq_nil_of_length_eq_zero h0
      have hOn : O.length = 0 := by rw [← hO.out, h0e, show assignOf now [] = [] from if_pos rfl]; rfl
      have hqz : q.length = 0 := hqn.out.trans h0
      have g1 : ((M.length : Int) == 0) = true := beq_iff_eq.2 (by omega)
      have g2 : ((O.length : Int) == 0) = true := beq_iff_eq.2 (by omega)
      have g3 : ((q.length : Int) == 0) = true := beq_iff_eq.2 (by omega)
      have g1' : (M.length == 0) = true := beq_iff_eq.2 h0
      have g2' : (O.length == 0) = true := beq_iff_eq.2 hOn
      have g3' : (q.length == 0) = true := beq_iff_eq.2 hqz
      have g4 : ((O.length : Int) != 16) = true := by rw [hOn]; rfl
      have g4' : (O.length != 16) = true := by rw [hOn]; rfl
      refine wp_region_N [(0, 1), (1, 1), (2, 1), (3, 1), (4, 1), (5, 1), (6, 1), (7, 1), (8, 1), (9, 1)] (by kernel_rfl) ?_
      refine wpS_this [0, 1, 2, 3, 4, 5, 6, 7, 8, 9] rfl (by kernel_rfl) (by simp only [pickL, nthL, List.cons_append, List.nil_append]; rfl) ?_
      repeat (go_big_quiet_step (fail))
      refine wpQuiet_nil ?_
      refine wpS_nil ?_
      refine then_normal ?_
      refine wp_cond_true rfl ?_
      refine wp_seq ?_
      refine wp_region_N [(0, 1), (1, 1), (2, 1), (3, 1), (4, 3), (5, 1), (6, 1)] (by kernel_rfl) ?_
      refine wpS_this [0, 1, 2, 3] rfl (by kernel_rfl) (by simp only [pickL, nthL, List.cons_append, List.nil_append]; rfl) ?_
      repeat (go_big_quiet_step (fail))
      refine wpQuiet_nil ?_
      refine wpS_does0 (i := 4) (d := some 43) (rem := [_, _, _, _, _]) (out := [_, _, _, _, _]) rfl (by rfl) rfl Try.call11 (awake_d)  HM33.out [] rfl covS_nil rfl rfl ?_
      rintro W35 hm34 -
      have HM36 := Lib.hid hm34
      clear hm34
      simp only [Act.put, List.setIfInBounds_toArray, List.set_cons_succ, List.set_cons_zero]
      refine wpS_this [5, 6] rfl (by kernel_rfl) (by simp only [pickL, nthL, List.cons_append, List.nil_append]; rfl) ?_
      repeat (go_big_quiet_step (fail))
      refine wpQuiet_nil ?_
      refine wpS_nil ?_
      refine then_normal ?_
      refine wp_ret ?_
      refine then_ret ?_
      refine bodyPost_ret (results_tmp rfl _ _ _) rfl ?_
      exact does_ret (Mem.only (M := [_]) HM36.out [1] rfl) rfl rfl
    · have hne : M ≠ [] := fun e => h0 (by rw [e]; rfl)
      have hA : Assigned now M O := by rw [← hO.out]; exact assigned hok.out hne
      have hOn : O.length = 16 := hA.len
      have g1 : ((M.length : Int) == 0) = false := beq_eq_false_iff_ne.2 (by omega)
      have g1' : (M.length == 0) = false := beq_eq_false_iff_ne.2 h0
      have g2 : ((O.length : Int) != 16) = false := by rw [hOn]; rfl
      have g2' : (O.length != 16) = false := by rw [hOn]; rfl
      have g3 : ((q.length : Int) != (M.length : Int)) = false := by rw [hqn.out]; exact bne_self_eq_false _
      have g3' : (q.length != M.length) = false := by rw [hqn.out]; exact bne_self_eq_false _
      have hne := Lib.hid hne
      have hA := Lib.hid hA
      replace hOn := Lib.hid hOn
      refine wp_region_N [(0, 1), (1, 1), (2, 1), (3, 1), (4, 1), (5, 1), (6, 1), (7, 1), (8, 1), (9, 1)] (by kernel_rfl) ?_
      refine wpS_this [0, 1, 2, 3, 4, 5, 6, 7, 8, 9] rfl (by kernel_rfl) (by simp only [pickL, nthL, List.cons_append, List.nil_append]; rfl) ?_
      repeat (go_big_quiet_step (fail))
      refine wpQuiet_nil ?_
      refine wpS_nil ?_
      refine then_normal ?_
      refine wp_cond_false rfl ?_
      refine wp_skip ?_
      refine then_normal ?_
      refine wp_seq ?_
      refine wp_region_N [(0, 1)] (by kernel_rfl) ?_
      refine wpS_this [0] rfl (by kernel_rfl) (by simp only [pickL, nthL, List.cons_append, List.nil_append]; rfl) ?_
      repeat (go_big_quiet_step (fail))
      refine wpQuiet_nil ?_
      refine wpS_nil ?_
      refine then_normal ?_
      refine wp_seq ?_
      refine wp_seq ?_
      refine wp_region_N [(0, 1), (1, 1), (2, 1)] (by kernel_rfl) ?_
      refine wpS_this [0, 1, 2] rfl (by kernel_rfl) (by simp only [pickL, nthL, List.cons_append, List.nil_append]; rfl) ?_
      repeat (go_big_quiet_step (fail))
      refine wpQuiet_nil ?_
      refine wpS_nil ?_
      refine then_normal ?_
      refine wp_block ?_
      refine wp_loop_F [4, 8, 9, 10, 11, 12, 13, 47, 48, 49, 50, 51, 52, 53, 54, 55, 56, 57, 58, 59, 60, 61, 62, 63, 64, 65, 66, 67, 68, 69, 70, 71, 72, 73, 74, 75, 76, 77, 78, 79, 80, 81, 82, 83, 84, 85, 86, 87, 88, 89] (fun n vs W' => ∃ k : Nat, n = M.length - k ∧ vs 47 = .int .i64 (k : Int) ∧ vs 8 = .int .i64 ((stK now O M k : Nat) : Int) ∧ k ≤ M.length ∧ Mem [rdRow (.slice lp O.length lc) O, rowT elemI (.slice mp M.length mc) M, rowT elemI (.slice qp q.length qc) q, oldT W0] H w W') (n0 := M.length) ?_ ?_
      · exact ⟨0, rfl, rfl, rfl, Nat.zero_le _, (Mem.only (M := [_, _, _, _]) HM33.out [2, 2, 0, 0] rfl)⟩
      rintro n vs W' ⟨k, rfl, e47, e8, hk, hmm⟩
      simp only [putAll, List.map_cons, List.map_nil, Act.put, List.setIfInBounds_toArray, List.set_cons_succ, List.set_cons_zero]
      rw [e47, e8]
      clear e47 e8
      have hsb := stK_le now O M k hk
      obtain ⟨s0, hs0'⟩ : ∃ z : Int, ((stK now O M k : Nat) : Int) = z := ⟨_, rfl⟩
      rw [hs0']
      have hsb0 : 0 ≤ s0 ∧ s0 ≤ 128 := by omega
      obtain ⟨hsb0, hsb1⟩ := hsb0
      clear hsb
      have hs0 := Lib.hid hs0'
      clear hs0'
      have HM37 := Lib.hid hmm
      clear hmm
      refine wp_seq ?_
      refine wp_region_N [(0, 1)] (by kernel_rfl) ?_
      refine wpS_this [0] rfl (by kernel_rfl) (by simp only [pickL, nthL, List.cons_append, List.nil_append]; rfl) ?_
      repeat (go_big_quiet_step (fail))
      refine wpQuiet_nil ?_
      refine wpS_nil ?_
      refine then_normal ?_
      refine wp_seq ?_
      refine wp_cond_split rfl (fun h38 => ?_) (fun h38 => ?_)
      · have hk1 : k + 1 ≤ M.length := by have : (k : Int) < ((M.length : Nat) : Int) := (by simpa using h38); omega
        clear h38
        obtain ⟨m, hm'⟩ : ∃ y, M[k]? = some y := ⟨_, List.getElem?_eq_getElem hk1⟩
        obtain ⟨qv, hqv'⟩ : ∃ z : Int, quotaOf now M m = z := ⟨_, rfl⟩
        have hqk : Hid (q[k]? = some qv) := Lib.hid (by rw [← hqq.out, quotas_at hm', hqv'])
        have hm := Lib.hid hm'
        clear hm'
        have hqv := Lib.hid hqv'
        clear hqv'
        refine wp_skip ?_
        refine then_normal ?_
        refine wp_seq ?_
        refine wp_block ?_
        refine wp_seq ?_
        refine wp_region_N [(0, 1), (1, 1), (2, 1), (3, 1), (4, 1)] (by kernel_rfl) ?_
        refine wpS_this [0] rfl (by kernel_rfl) (by simp only [pickL, nthL, List.cons_append, List.nil_append]; rfl) ?_
        repeat (go_big_quiet_step (fail))
        refine wpQuiet_nil ?_
        refine wpS_index (E := elemI) (i := 1) (d := some 50) rfl (by rfl) rfl rfl rfl (HM37.out.row 1 rfl rowOwn) (hm.out) rfl ?_
        intro eb39 eo40 hc41
        simp only [Act.put, List.setIfInBounds_toArray, List.set_cons_succ, List.set_cons_zero]
        refine wpS_load1 (i := 2) (d := some 51) (u := .int .i64 m) rfl (by rfl) rfl rfl (hc41 0 _ rfl) Try.underlying3 rfl rfl ?_
        simp only [Act.put, List.setIfInBounds_toArray, List.set_cons_succ, List.set_cons_zero]
        refine wpS_this [3, 4] rfl (by kernel_rfl) (by simp only [pickL, nthL, List.cons_append, List.nil_append]; rfl) ?_
        repeat (go_big_quiet_step (fail))
        refine wpQuiet_nil ?_
        refine wpS_nil ?_
        refine then_normal ?_
        refine wp_seq ?_
        refine wp_region_N [(0, 1), (1, 1)] (by kernel_rfl) ?_
        refine wpS_this [0, 1] rfl (by kernel_rfl) (by simp only [pickL, nthL, List.cons_append, List.nil_append]; rfl) ?_
        repeat (go_big_quiet_step (fail))
        refine wpQuiet_nil ?_
        refine wpS_nil ?_
        refine then_normal ?_
        refine wp_seq ?_
        refine wp_seq ?_
        refine wp_region_N [(0, 1)] (by kernel_rfl) ?_
        refine wpS_this [0] rfl (by kernel_rfl) (by simp only [pickL, nthL, List.cons_append, List.nil_append]; rfl) ?_
        repeat (go_big_quiet_step (fail))
        refine wpQuiet_nil ?_
        refine wpS_nil ?_
        refine then_normal ?_
        refine wp_block ?_
        refine wp_loop_F [11, 12, 13, 52, 53, 54, 55, 56, 57, 58, 59, 60, 61, 62, 63, 64, 65, 66, 67, 68, 69, 70, 71, 72, 73, 74, 75, 76, 77] (fun n ws W' => ∃ p : Nat, n = 16 - p ∧ ws 52 = .int .i64 (p : Int) ∧ ws 11 = .int .i64 ((hasK now m p : Nat) : Int) ∧ ws 12 = .int .i64 ((kptK now O m p : Nat) : Int) ∧ p ≤ 16 ∧ Mem [rdRow (.slice lp O.length lc) O, rowT elemI (.slice mp M.length mc) M, rowT elemI (.slice qp q.length qc) q, oldT W0] H w W') (n0 := 16) ?_ ?_
        · exact ⟨0, rfl, rfl, rfl, rfl, Nat.zero_le _, (Mem.only (M := [_, _, _, _]) HM37.out [0, 0, 0, 0] rfl)⟩
        rintro n ws W' ⟨p, rfl, e52, e11, e12, hp, hmm2⟩
        simp only [putAll, List.map_cons, List.map_nil, Act.put, List.setIfInBounds_toArray, List.set_cons_succ, List.set_cons_zero]
        rw [e52, e11, e12]
        clear e52 e11 e12
        have hb1 := hasK_le now m p
        have hb2 := kptK_le now O m p
        obtain ⟨hd, hhd'⟩ : ∃ z : Int, ((hasK now m p : Nat) : Int) = z := ⟨_, rfl⟩
        rw [hhd']
        obtain ⟨kp, hkp'⟩ : ∃ z : Int, ((kptK now O m p : Nat) : Int) = z := ⟨_, rfl⟩
        rw [hkp']
        have hb3 : (0 ≤ hd ∧ hd ≤ 16) ∧ 0 ≤ kp ∧ kp ≤ 16 := by omega
        obtain ⟨⟨hb3, hb4⟩, hb5, hb6⟩ := hb3
        clear hb1 hb2
        have hhd := Lib.hid hhd'
        clear hhd'
        have hkp := Lib.hid hkp'
        clear hkp'
        have HM42 := Lib.hid hmm2
        clear hmm2
        refine wp_seq ?_
        refine wp_region_N [(0, 1)] (by kernel_rfl) ?_
        refine wpS_this [0] rfl (by kernel_rfl) (by simp only [pickL, nthL, List.cons_append, List.nil_append]; rfl) ?_
        repeat (go_big_quiet_step (fail))
        refine wpQuiet_nil ?_
        refine wpS_nil ?_
        refine then_normal ?_
        refine wp_seq ?_
        refine wp_cond_split rfl (fun h43 => ?_) (fun h43 => ?_)
        · have hp1 : p + 1 ≤ 16 := by have : (p : Int) < ((16 : Nat) : Int) := (by simpa using h43); omega
          clear h43
          obtain ⟨x, hx'⟩ : ∃ y, O[p]? = some y := ⟨_, List.getElem?_eq_getElem (by have := hOn.out; omega)⟩
          have hx := Lib.hid hx'
          clear hx'
          refine wp_skip ?_
          refine then_normal ?_
          refine wp_seq ?_
          refine wp_block ?_
          refine wp_seq ?_
          refine wp_region_N [(0, 1), (1, 1)] (by kernel_rfl) ?_
          refine wpS_this [0, 1] rfl (by kernel_rfl) (by simp only [pickL, nthL, List.cons_append, List.nil_append]; rfl) ?_
          repeat (go_big_quiet_step (fail))
          refine wpQuiet_nil ?_
          refine wpS_nil ?_
          refine then_normal ?_
          refine wp_seq ?_
          rcases (show (p < now.length ∧ atL now p = m) ∨ (p < now.length ∧ atL now p ≠ m) ∨ ¬ p < now.length from by by_cases h1 : p < now.length <;> by_cases h2 : atL now p = m <;> simp [h1, h2]) with ⟨hlt, hat'⟩ | ⟨hlt, hat'⟩ | hlt
          · obtain ⟨y, hy'⟩ : ∃ y, now[p]? = some y := ⟨_, List.getElem?_eq_getElem hlt⟩
            have hym : y = m := (atL_of hy').symm.trans hat'
            have g2 : (y == m) = true := beq_iff_eq.2 hym
            have hym := Lib.hid hym
            have g1 : decide (p < now.length) = true := decide_eq_true (by omega)
            have g1' : decide ((p : Int) < (now.length : Int)) = true := decide_eq_true (by omega)
            have hy := Lib.hid hy'
            clear hy'
            have hat := Lib.hid hat'
            clear hat'
            refine wp_region_N [(0, 1), (1, 1), (2, 1), (3, 1), (4, 1), (5, 1), (6, 1), (7, 1), (8, 1), (9, 1), (10, 1), (11, 1)] (by kernel_rfl) ?_
            refine wpS_this [0, 1, 2, 3, 4, 5, 6] rfl (by kernel_rfl) (by simp only [pickL, nthL, List.cons_append, List.nil_append]; rfl) ?_
            repeat (go_big_quiet_step (fail))
            refine wpQuiet_nil ?_
            refine wpS_index (E := elemI) (i := 7) (d := some 62) rfl (by rfl) rfl rfl rfl (HM42.out.row 3 rfl (rowOld hnow)) (hy.out) rfl ?_
            intro eb44 eo45 hc46
            simp only [Act.put, List.setIfInBounds_toArray, List.set_cons_succ, List.set_cons_zero]
            refine wpS_load1 (i := 8) (d := some 63) (u := .int .i64 y) rfl (by rfl) rfl rfl (hc46 0 _ rfl) Try.underlying3 rfl rfl ?_
            simp only [Act.put, List.setIfInBounds_toArray, List.set_cons_succ, List.set_cons_zero]
            refine wpS_this [9, 10, 11] rfl (by kernel_rfl) (by simp only [pickL, nthL, List.cons_append, List.nil_append]; rfl) ?_
            repeat (go_big_quiet_step (fail))
            refine wpQuiet_nil ?_
            refine wpS_nil ?_
            refine then_normal ?_
            refine wp_cond_true rfl ?_
            refine wp_seq ?_
            refine wp_region_N [(0, 1), (1, 1), (2, 1)] (by kernel_rfl) ?_
            refine wpS_this [0, 1, 2] rfl (by kernel_rfl) (by simp only [pickL, nthL, List.cons_append, List.nil_append]; rfl) ?_
            repeat (go_big_quiet_step (fail))
            refine wpQuiet_nil ?_
            refine wpS_nil ?_
            refine then_normal ?_
            refine wp_seq ?_
            by_cases h18 : x = m
            · have g3 : (x == m) = true := beq_iff_eq.2 h18
              replace h18 := Lib.hid h18
              refine wp_region_N [(0, 1), (1, 1), (2, 1), (3, 1), (4, 1), (5, 1)] (by kernel_rfl) ?_
              refine wpS_this [0, 1] rfl (by kernel_rfl) (by simp only [pickL, nthL, List.cons_append, List.nil_append]; rfl) ?_
              repeat (go_big_quiet_step (fail))
              refine wpQuiet_nil ?_
              refine wpS_index (E := elemI) (i := 2) (d := some 71) rfl (by rfl) rfl rfl rfl (HM42.out.row 0 rfl rdRow_reads) (hx.out) rfl ?_
              intro eb47 eo48 hc49
              simp only [Act.put, List.setIfInBounds_toArray, List.set_cons_succ, List.set_cons_zero]
              refine wpS_load1 (i := 3) (d := some 72) (u := .int .i64 x) rfl (by rfl) rfl rfl (hc49 0 _ rfl) Try.underlying3 rfl rfl ?_
              simp only [Act.put, List.setIfInBounds_toArray, List.set_cons_succ, List.set_cons_zero]
              refine wpS_this [4, 5] rfl (by kernel_rfl) (by simp only [pickL, nthL, List.cons_append, List.nil_append]; rfl) ?_
              repeat (go_big_quiet_step (fail))
              refine wpQuiet_nil ?_
              refine wpS_nil ?_
              refine then_normal ?_
              refine wp_cond_true rfl ?_
              refine wp_region_N [(0, 1), (1, 1), (2, 1)] (by kernel_rfl) ?_
              refine wpS_this [0, 1, 2] rfl (by kernel_rfl) (by simp only [pickL, nthL, List.cons_append, List.nil_append]; rfl) ?_
              repeat (go_big_quiet_step (fail))
              refine wpQuiet_nil ?_
              refine wpS_nil ?_
              refine block_normal ?_
              refine then_normal ?_
              refine wp_region_N [(0, 1), (1, 1)] (by kernel_rfl) ?_
              refine wpS_this [0, 1] rfl (by kernel_rfl) (by simp only [pickL, nthL, List.cons_append, List.nil_append]; rfl) ?_
              repeat (go_big_quiet_step (fail))
              refine wpQuiet_nil ?_
              refine wpS_nil ?_
              refine then_normal ?_
              refine ⟨by kernel_rfl, ?_⟩
              refine ⟨16 - (p + 1), by omega, p + 1, rfl, rfl, ?_, ?_, hp1, (Mem.only (M := [_, _, _, _]) HM42.out [0, 0, 0, 0] rfl)⟩
              · rw [hasK_succ, if_pos hat.out, Int.natCast_add, hhd.out]
                rfl
              · rw [kptK_succ, if_pos ⟨hat.out, (atL_of hx.out).trans h18.out⟩, Int.natCast_add, hkp.out]
                rfl
            · have g3 : (x == m) = false := beq_eq_false_iff_ne.2 h18
              replace h18 := Lib.hid h18
              refine wp_region_N [(0, 1), (1, 1), (2, 1), (3, 1), (4, 1), (5, 1)] (by kernel_rfl) ?_
              refine wpS_this [0, 1] rfl (by kernel_rfl) (by simp only [pickL, nthL, List.cons_append, List.nil_append]; rfl) ?_
              repeat (go_big_quiet_step (fail))
              refine wpQuiet_nil ?_
              refine wpS_index (E := elemI) (i := 2) (d := some 71) rfl (by rfl) rfl rfl rfl (HM42.out.row 0 rfl rdRow_reads) (hx.out) rfl ?_
              intro eb50 eo51 hc52
              simp only [Act.put, List.setIfInBounds_toArray, List.set_cons_succ, List.set_cons_zero]
              refine wpS_load1 (i := 3) (d := some 72) (u := .int .i64 x) rfl (by rfl) rfl rfl (hc52 0 _ rfl) Try.underlying3 rfl rfl ?_
              simp only [Act.put, List.setIfInBounds_toArray, List.set_cons_succ, List.set_cons_zero]
              refine wpS_this [4, 5] rfl (by kernel_rfl) (by simp only [pickL, nthL, List.cons_append, List.nil_append]; rfl) ?_
              repeat (go_big_quiet_step (fail))
              refine wpQuiet_nil ?_
              refine wpS_nil ?_
              refine then_normal ?_
              refine wp_cond_false rfl ?_
              refine wp_skip ?_
              refine block_normal ?_
              refine then_normal ?_
              refine wp_region_N [(0, 1), (1, 1)] (by kernel_rfl) ?_
              refine wpS_this [0, 1] rfl (by kernel_rfl) (by simp only [pickL, nthL, List.cons_append, List.nil_append]; rfl) ?_
              repeat (go_big_quiet_step (fail))
              refine wpQuiet_nil ?_
              refine wpS_nil ?_
              refine then_normal ?_
              refine ⟨by kernel_rfl, ?_⟩
              refine ⟨16 - (p + 1), by omega, p + 1, rfl, rfl, ?_, ?_, hp1, (Mem.only (M := [_, _, _, _]) HM42.out [0, 0, 0, 0] rfl)⟩
              · rw [hasK_succ, if_pos hat.out, Int.natCast_add, hhd.out]
                rfl
              · rw [kptK_succ, if_neg (fun e => h18.out ((atL_of hx.out).symm.trans e.2)), Nat.add_zero, hkp.out]
                rfl
          · obtain ⟨y, hy'⟩ : ∃ y, now[p]? = some y := ⟨_, List.getElem?_eq_getElem hlt⟩
            have hym : ¬ y = m := fun e => hat' ((atL_of hy').trans e)
            have g2 : (y == m) = false := beq_eq_false_iff_ne.2 hym
            have g1 : decide (p < now.length) = true := decide_eq_true (by omega)
            have g1' : decide ((p : Int) < (now.length : Int)) = true := decide_eq_true (by omega)
            have hat : Hid (¬ atL now p = m) := Lib.hid hat'
            clear hat'
            have hy := Lib.hid hy'
            clear hy'
            refine wp_region_N [(0, 1), (1, 1), (2, 1), (3, 1), (4, 1), (5, 1), (6, 1), (7, 1), (8, 1), (9, 1), (10, 1), (11, 1)] (by kernel_rfl) ?_
            refine wpS_this [0, 1, 2, 3, 4, 5, 6] rfl (by kernel_rfl) (by simp only [pickL, nthL, List.cons_append, List.nil_append]; rfl) ?_
            repeat (go_big_quiet_step (fail))
            refine wpQuiet_nil ?_
            refine wpS_index (E := elemI) (i := 7) (d := some 62) rfl (by rfl) rfl rfl rfl (HM42.out.row 3 rfl (rowOld hnow)) (hy.out) rfl ?_
            intro eb53 eo54 hc55
            simp only [Act.put, List.setIfInBounds_toArray, List.set_cons_succ, List.set_cons_zero]
            refine wpS_load1 (i := 8) (d := some 63) (u := .int .i64 y) rfl (by rfl) rfl rfl (hc55 0 _ rfl) Try.underlying3 rfl rfl ?_
            simp only [Act.put, List.setIfInBounds_toArray, List.set_cons_succ, List.set_cons_zero]
            refine wpS_this [9, 10, 11] rfl (by kernel_rfl) (by simp only [pickL, nthL, List.cons_append, List.nil_append]; rfl) ?_
            repeat (go_big_quiet_step (fail))
            refine wpQuiet_nil ?_
            refine wpS_nil ?_
            refine then_normal ?_
            refine wp_cond_false rfl ?_
            refine wp_skip ?_
            refine block_normal ?_
            refine then_normal ?_
            refine wp_region_N [(0, 1), (1, 1)] (by kernel_rfl) ?_
            refine wpS_this [0, 1] rfl (by kernel_rfl) (by simp only [pickL, nthL, List.cons_append, List.nil_append]; rfl) ?_
            repeat (go_big_quiet_step (fail))
            refine wpQuiet_nil ?_
            refine wpS_nil ?_
            refine then_normal ?_
            refine ⟨by kernel_rfl, ?_⟩
            refine ⟨16 - (p + 1), by omega, p + 1, rfl, rfl, ?_, ?_, hp1, (Mem.only (M := [_, _, _, _]) HM42.out [0, 0, 0, 0] rfl)⟩
            · rw [hasK_succ, if_neg hat.out, Nat.add_zero, hhd.out]
              rfl
            · rw [kptK_succ, if_neg (fun e => hat.out e.1), Nat.add_zero, hkp.out]
              rfl
          · have hat : Hid (¬ atL now p = m) := Lib.hid (by rw [atL_out (by omega)]; have := (hok.out.node m (List.mem_of_getElem? hm.out)).1; omega)
            have g1 : decide (p < now.length) = false := decide_eq_false (by omega)
            have g1' : decide ((p : Int) < (now.length : Int)) = false := decide_eq_false (by omega)
            refine wp_region_N [(0, 1), (1, 1), (2, 1), (3, 1), (4, 1), (5, 1), (6, 1), (7, 1), (8, 1), (9, 1), (10, 1), (11, 1)] (by kernel_rfl) ?_
            refine wpS_this [0, 1, 2, 3, 4, 5, 6] rfl (by kernel_rfl) (by simp only [pickL, nthL, List.cons_append, List.nil_append]; rfl) ?_
            repeat (go_big_quiet_step (fail))
            refine wpQuiet_nil ?_
            refine wpS_skip (i := 7) (d := some 62) rfl (by rfl) rfl ?_
            simp only [Act.put, List.setIfInBounds_toArray, List.set_cons_succ, List.set_cons_zero]
            refine wpS_skip (i := 8) (d := some 63) rfl (by rfl) rfl ?_
            simp only [Act.put, List.setIfInBounds_toArray, List.set_cons_succ, List.set_cons_zero]
            refine wpS_this [9, 10, 11] rfl (by kernel_rfl) (by simp only [pickL, nthL, List.cons_append, List.nil_append]; rfl) ?_
            repeat (go_big_quiet_step (fail))
            refine wpQuiet_nil ?_
            refine wpS_nil ?_
            refine then_normal ?_
            refine wp_cond_false rfl ?_
            refine wp_skip ?_
            refine block_normal ?_
            refine then_normal ?_
            refine wp_region_N [(0, 1), (1, 1)] (by kernel_rfl) ?_
            refine wpS_this [0, 1] rfl (by kernel_rfl) (by simp only [pickL, nthL, List.cons_append, List.nil_append]; rfl) ?_
            repeat (go_big_quiet_step (fail))
            refine wpQuiet_nil ?_
            refine wpS_nil ?_
            refine then_normal ?_
            refine ⟨by kernel_rfl, ?_⟩
            refine ⟨16 - (p + 1), by omega, p + 1, rfl, rfl, ?_, ?_, hp1, (Mem.only (M := [_, _, _, _]) HM42.out [0, 0, 0, 0] rfl)⟩
            · rw [hasK_succ, if_neg hat.out, Nat.add_zero, hhd.out]
              rfl
            · rw [kptK_succ, if_neg (fun e => hat.out e.1), Nat.add_zero, hkp.out]
              rfl
        · have hpn : p = 16 := by have : ¬ (p : Int) < 16 := (by simpa using h43); omega
          clear h43
          subst hpn
          refine wp_exit ?_
          refine then_exit (then_exit (block_exit ?_))
          refine then_normal ?_
          refine wp_seq ?_
          refine wp_seq ?_
          skip
          · have hkept := hA.out.kept m (List.mem_of_getElem? hm.out)
            skip
            have hmin : (if qv < hd then qv else hd) = kp := by rw [← hhd.out, ← hkp.out, ← hqv.out]; unfold kptK; rw [hkept]; split <;> omega
            have hkc : Hid (((keptC now O m : Nat) : Int) = kp) := Lib.hid (by rw [← hkp.out]; rfl)
            clear hkept
            refine wp_region_N [(0, 1), (1, 1), (2, 1), (3, 1), (4, 1), (5, 1), (6, 1), (7, 1)] (by kernel_rfl) ?_
            refine wpS_this [0, 1, 2, 3] rfl (by kernel_rfl) (by simp only [pickL, nthL, List.cons_append, List.nil_append]; rfl) ?_
            repeat (go_big_quiet_step (fail))
            refine wpQuiet_nil ?_
            refine wpS_index (E := elemI) (i := 4) (d := some 82) rfl (by rfl) rfl rfl rfl (HM42.out.row 2 rfl rowOwn) (hqk.out) rfl ?_
            intro eb56 eo57 hc58
            simp only [Act.put, List.setIfInBounds_toArray, List.set_cons_succ, List.set_cons_zero]
            refine wpS_load1 (i := 5) (d := some 83) (u := .int .i64 qv) rfl (by rfl) rfl rfl (hc58 0 _ rfl) Try.underlying3 rfl rfl ?_
            simp only [Act.put, List.setIfInBounds_toArray, List.set_cons_succ, List.set_cons_zero]
            refine wpS_this [6, 7] rfl (by kernel_rfl) (by simp only [pickL, nthL, List.cons_append, List.nil_append]; rfl) ?_
            repeat (go_big_quiet_step (fail))
            refine wpQuiet_nil ?_
            refine wpS_nil ?_
            refine then_normal ?_
            refine wp_cond_false rfl ?_
            refine wp_skip ?_
            refine then_normal ?_
            refine wp_region_N [(0, 1), (1, 1), (2, 1), (3, 1)] (by kernel_rfl) ?_
            refine wpS_this [0, 1, 2, 3] rfl (by kernel_rfl) (by simp only [pickL, nthL, List.cons_append, List.nil_append]; rfl) ?_
            repeat (go_big_quiet_step (fail))
            refine wpQuiet_nil ?_
            refine wpS_nil ?_
            refine block_normal ?_
            refine then_normal ?_
            refine wp_region_N [(0, 1), (1, 1)] (by kernel_rfl) ?_
            refine wpS_this [0, 1] rfl (by kernel_rfl) (by simp only [pickL, nthL, List.cons_append, List.nil_append]; rfl) ?_
            repeat (go_big_quiet_step (fail))
            refine wpQuiet_nil ?_
            refine wpS_nil ?_
            refine then_normal ?_
            refine ⟨by kernel_rfl, ?_⟩
            refine ⟨M.length - (k + 1), by omega, k + 1, rfl, rfl, ?_, hk1, (Mem.only (M := [_, _, _, _]) HM42.out [0, 0, 0, 0] rfl)⟩
            rw [stK_succ hm.out, Int.natCast_add, hs0.out, hkc.out]
            rfl
      · have hgeM : Hid (M.length ≤ k) := Lib.hid (by have : ¬ (k : Int) < (M.length : Int) := (by simpa using h38); omega)
        clear h38
        refine wp_exit ?_
        refine then_exit (then_exit (block_exit ?_))
        refine then_normal ?_
        refine wp_seq ?_
        obtain ⟨hcap, hlc⟩ := src_cap hsnow
        by_cases h16 : 16 < now.length
        · obtain ⟨mm, hmm⟩ : ∃ z : Nat, z = 16 := ⟨_, rfl⟩
          replace hmm := Lib.hid hmm
          refine wp_region_N [(0, 3), (1, 1), (2, 1), (3, 1), (4, 1), (5, 1), (6, 3), (7, 1)] (by kernel_rfl) ?_
          refine wpS_buildN elemI (i := 0) (dd := 90) (n := 0) (xs := ([] : List Int)) (cs := #[]) rfl (by rfl) (fun _ => by kernel_rfl) rfl rfl HM37.out covS_nil rfl ?_
          rintro b61 W62 hm63 -
          have HM64 := Lib.hid hm63
          clear hm63
          simp only [Act.put, List.setIfInBounds_toArray, List.set_cons_succ, List.set_cons_zero]
          refine wpS_this [1, 2, 3, 4, 5] rfl (by kernel_rfl) (by simp only [pickL, nthL, List.cons_append, List.nil_append]; rfl) ?_
          repeat (go_big_quiet_step (fail))
          refine wpQuiet_nil ?_
          refine wpS_append (E := elemI) (i := 6) (d := some 96) (L2 := [_, _, _, _]) rfl (by rfl) rfl HM64.out 0 rfl rfl (((HM64.out.have 4 rfl fun H h => OldA.src h hsnow).take (m := 16) (by omega))) rfl (by rw [List.length_take]; show _ * 8 ≤ _; simp only [List.length_nil]; omega) rfl covS_nil rfl ?_
          rintro u67 W68 hm69 -
          have HM70 := Lib.hid hm69
          clear hm69
          simp only [Act.put, List.setIfInBounds_toArray, List.set_cons_succ, List.set_cons_zero]
          refine wpS_this [7] rfl (by kernel_rfl) (by simp only [pickL, nthL, List.cons_append, List.nil_append]; rfl) ?_
          repeat (go_big_quiet_step (fail))
          refine wpQuiet_nil ?_
          refine wpS_nil ?_
          refine then_normal ?_
          refine wp_seq ?_
          skip
          · have hms2 := moves_stay hok.out hA.out
            have hkm : k = M.length := by have := hgeM.out; omega
            have hss : s0 = (((M.map (keptC now O)).sum : Nat) : Int) := by rw [← hs0.out, hkm, stK_end]
            have hmv : Hid (((movesOf O ([] ++ now.take 16) : Nat) : Int) = 16 - s0) := Lib.hid (by rw [List.nil_append, moves_take O now 16 (by omega), hss]; omega)
            clear hms2 hkm hss
            refine wp_region_N [(0, 1), (1, 1), (2, 3), (3, 1), (4, 1), (5, 1), (6, 1), (7, 3), (8, 1), (9, 1)] (by kernel_rfl) ?_
            refine wpS_this [0, 1] rfl (by kernel_rfl) (by simp only [pickL, nthL, List.cons_append, List.nil_append]; rfl) ?_
            repeat (go_big_quiet_step (fail))
            refine wpQuiet_nil ?_
            refine wpS_does2 (i := 2) (d := some 99) (rem := [_, _, _]) (out := [_, _, _, _, _]) rfl (by rfl) rfl Try.call19 (Does.ofList (moves_d (listT [_, _]) _ _ O _ (rowL 0 rfl rdRow_reads) (rowL 1 rfl rowOwn))) rfl rfl HM70.out [1, 0] rfl covS_nil rfl rfl ?_
            rintro W72 hm71 -
            rw [hmv.out]
            have HM73 := Lib.hid hm71
            clear hm71
            simp only [Act.put, List.setIfInBounds_toArray, List.set_cons_succ, List.set_cons_zero]
            refine wpS_this [3, 4, 5, 6] rfl (by kernel_rfl) (by simp only [pickL, nthL, List.cons_append, List.nil_append]; rfl) ?_
            repeat (go_big_quiet_step (fail))
            refine wpQuiet_nil ?_
            refine wpS_does0 (i := 7) (d := some 104) (rem := [_, _, _, _, _]) (out := [_, _, _, _, _]) rfl (by rfl) rfl Try.call11 (awake_d)  HM73.out [] rfl covS_nil rfl rfl ?_
            rintro W75 hm74 -
            have HM76 := Lib.hid hm74
            clear hm74
            simp only [Act.put, List.setIfInBounds_toArray, List.set_cons_succ, List.set_cons_zero]
            refine wpS_this [8, 9] rfl (by kernel_rfl) (by simp only [pickL, nthL, List.cons_append, List.nil_append]; rfl) ?_
            repeat (go_big_quiet_step (fail))
            refine wpQuiet_nil ?_
            refine wpS_nil ?_
            refine then_normal ?_
            refine wp_ret ?_
            refine bodyPost_ret (results_tmp rfl _ _ _) rfl ?_
            exact does_ret (Mem.only (M := [_]) HM76.out [4] rfl) rfl rfl
        · obtain ⟨mm, hmm⟩ : ∃ z : Nat, z = now.length := ⟨_, rfl⟩
          replace hmm := Lib.hid hmm
          refine wp_region_N [(0, 3), (1, 1), (2, 1), (3, 1), (4, 1), (5, 1), (6, 3), (7, 1)] (by kernel_rfl) ?_
          refine wpS_buildN elemI (i := 0) (dd := 90) (n := 0) (xs := ([] : List Int)) (cs := #[]) rfl (by rfl) (fun _ => by kernel_rfl) rfl rfl HM37.out covS_nil rfl ?_
          rintro b79 W80 hm81 -
          have HM82 := Lib.hid hm81
          clear hm81
          simp only [Act.put, List.setIfInBounds_toArray, List.set_cons_succ, List.set_cons_zero]
          refine wpS_this [1, 2, 3, 4, 5] rfl (by kernel_rfl) (by simp only [pickL, nthL, List.cons_append, List.nil_append]; rfl) ?_
          repeat (go_big_quiet_step (fail))
          refine wpQuiet_nil ?_
          refine wpS_append (E := elemI) (i := 6) (d := some 96) (L2 := [_, _, _, _]) rfl (by rfl) rfl HM82.out 0 rfl rfl (((HM82.out.have 4 rfl fun H h => OldA.src h hsnow).take (m := now.length) (by omega))) rfl (by rw [List.length_take]; show _ * 8 ≤ _; simp only [List.length_nil]; omega) rfl covS_nil rfl ?_
          rintro u85 W86 hm87 -
          have HM88 := Lib.hid hm87
          clear hm87
          simp only [Act.put, List.setIfInBounds_toArray, List.set_cons_succ, List.set_cons_zero]
          refine wpS_this [7] rfl (by kernel_rfl) (by simp only [pickL, nthL, List.cons_append, List.nil_append]; rfl) ?_
          repeat (go_big_quiet_step (fail))
          refine wpQuiet_nil ?_
          refine wpS_nil ?_
          refine then_normal ?_
          refine wp_seq ?_
          skip
          · have hms2 := moves_stay hok.out hA.out
            have hkm : k = M.length := by have := hgeM.out; omega
            have hss : s0 = (((M.map (keptC now O)).sum : Nat) : Int) := by rw [← hs0.out, hkm, stK_end]
            have hmv : Hid (((movesOf O ([] ++ now.take now.length) : Nat) : Int) = 16 - s0) := Lib.hid (by rw [List.nil_append, moves_take O now now.length (by omega), hss]; omega)
            clear hms2 hkm hss
            refine wp_region_N [(0, 1), (1, 1), (2, 3), (3, 1), (4, 1), (5, 1), (6, 1), (7, 3), (8, 1), (9, 1)] (by kernel_rfl) ?_
            refine wpS_this [0, 1] rfl (by kernel_rfl) (by simp only [pickL, nthL, List.cons_append, List.nil_append]; rfl) ?_
            repeat (go_big_quiet_step (fail))
            refine wpQuiet_nil ?_
            refine wpS_does2 (i := 2) (d := some 99) (rem := [_, _, _]) (out := [_, _, _, _, _]) rfl (by rfl) rfl Try.call19 (Does.ofList (moves_d (listT [_, _]) _ _ O _ (rowL 0 rfl rdRow_reads) (rowL 1 rfl rowOwn))) rfl rfl HM88.out [1, 0] rfl covS_nil rfl rfl ?_
            rintro W90 hm89 -
            rw [hmv.out]
            have HM91 := Lib.hid hm89
            clear hm89
            simp only [Act.put, List.setIfInBounds_toArray, List.set_cons_succ, List.set_cons_zero]
            refine wpS_this [3, 4, 5, 6] rfl (by kernel_rfl) (by simp only [pickL, nthL, List.cons_append, List.nil_append]; rfl) ?_
            repeat (go_big_quiet_step (fail))
            refine wpQuiet_nil ?_
            refine wpS_does0 (i := 7) (d := some 104) (rem := [_, _, _, _, _]) (out := [_, _, _, _, _]) rfl (by rfl) rfl Try.call11 (awake_d)  HM91.out [] rfl covS_nil rfl rfl ?_
            rintro W93 hm92 -
            have HM94 := Lib.hid hm92
            clear hm92
            simp only [Act.put, List.setIfInBounds_toArray, List.set_cons_succ, List.set_cons_zero]
            refine wpS_this [8, 9] rfl (by kernel_rfl) (by simp only [pickL, nthL, List.cons_append, List.nil_append]; rfl) ?_
            repeat (go_big_quiet_step (fail))
            refine wpQuiet_nil ?_
            refine wpS_nil ?_
            refine then_normal ?_
            refine wp_ret ?_
            refine bodyPost_ret (results_tmp rfl _ _ _) rfl ?_
            exact does_ret (Mem.only (M := [_]) HM94.out [4] rfl) rfl rfl

end Go.Proofs.Ytagpbmgeikjnjaa
