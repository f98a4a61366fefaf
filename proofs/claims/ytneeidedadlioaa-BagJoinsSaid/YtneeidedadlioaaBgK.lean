/- Bags: the landed bag's helpers. -/
import Derived.Test.YtneeidedadlioaaBgI
namespace Go.Proofs.Ytneeidedadlioaa
open Go Go.RowKit Go.BigFrame

set_option maxHeartbeats 4000000 in
set_option maxRecDepth 100000 in
theorem bfind_d (R : At) (v : Value) (l : List Vl) (hR : ∀ W H, R.p W H → RowAt elemV W v l) (hs : Srt l) (hl : l.length ≤ 4398046510976) (d1 d2 : Int) : Does Try.prog 36 #[v, .agg #[.int .i64 d1, .int .i64 d2]] [R] (.tuple #[.int .i64 (posB (d1, d2) l : Int), .bool (heldL l (d1, d2))]) [R] := by
  intro w H hp
  have HM0 := Lib.hid (mem_refl hp)
  clear hp
  obtain ⟨p, cap, rfl, -⟩ := (HM0.out.row 0 rfl hR).form
  go_enter Try.func36, Try.ntmps36
  refine wp_seq ?_
  refine wp_region_N [(0, 3), (1, 1), (2, 1)] (by kernel_rfl) ?_
  refine wpS_boxA (i := 0) (dd := 3) rfl (by rfl) rfl rfl HM0.out covS_nil rfl ?_
  rintro b3 W2 hm1 -
  have HM4 := Lib.hid hm1
  clear hm1
  simp only [Act.put, List.setIfInBounds_toArray, List.set_cons_succ, List.set_cons_zero]
  refine wpS_this [1, 2] rfl (by kernel_rfl) (by simp only [pickL, nthL, List.cons_append, List.nil_append]; rfl) ?_
  repeat (go_big_quiet_step (fail))
  refine wpQuiet_nil ?_
  refine wpS_nil ?_
  refine then_normal ?_
  refine wp_seq ?_
  refine wp_region_N [(0, 1), (1, 1), (2, 3), (3, 1), (4, 1), (5, 1), (6, 1)] (by kernel_rfl) ?_
  have Cb3 := Mem.cell HM4.out 0 rfl
  refine wpS_this [0, 1] rfl (by kernel_rfl) (by simp only [pickL, nthL, List.cons_append, List.nil_append]; rfl) ?_
  repeat (go_big_quiet_step (fail))
  refine wpQuiet_nil ?_
  clear Cb3
  refine wpS_does3 (i := 2) (d := some 8) (rem := [_]) (out := [_, _]) rfl (by rfl) rfl Try.call41 (bsearch_d R _ l hR hs hl d1 d2) rfl rfl rfl HM4.out [1] rfl covS_nil rfl rfl ?_
  rintro W6 hm5 -
  have HM7 := Lib.hid hm5
  clear hm5
  simp only [Act.put, List.setIfInBounds_toArray, List.set_cons_succ, List.set_cons_zero]
  refine wpS_this [3, 4, 5, 6] rfl (by kernel_rfl) (by simp only [pickL, nthL, List.cons_append, List.nil_append]; rfl) ?_
  repeat (go_big_quiet_step (fail))
  refine wpQuiet_nil ?_
  refine wpS_nil ?_
  refine then_normal ?_
  refine wp_ret ?_
  refine bodyPost_ret (results_tmp2 rfl _ _ _) rfl ?_
  exact does_ret (Mem.only (M := [_]) HM7.out [0] rfl) rfl rfl

set_option maxHeartbeats 4000000 in
set_option maxRecDepth 100000 in
theorem bheld_d (R : At) (v : Value) (l : List Vl) (hR : ∀ W H, R.p W H → RowAt elemV W v l) (hs : Srt l) (hl : l.length ≤ 4398046510976) (d1 d2 : Int) : Does Try.prog 23 #[v, .agg #[.int .i64 d1, .int .i64 d2]] [R] (.bool (heldL l (d1, d2))) [R] := by
  intro w H hp
  have HM0 := Lib.hid (mem_refl hp)
  clear hp
  obtain ⟨p, cap, rfl, -⟩ := (HM0.out.row 0 rfl hR).form
  go_enter Try.func23, Try.ntmps23
  refine wp_seq ?_
  refine wp_region_N [(0, 3), (1, 1)] (by kernel_rfl) ?_
  refine wpS_boxA (i := 0) (dd := 3) rfl (by rfl) rfl rfl HM0.out covS_nil rfl ?_
  rintro b3 W2 hm1 -
  have HM4 := Lib.hid hm1
  clear hm1
  simp only [Act.put, List.setIfInBounds_toArray, List.set_cons_succ, List.set_cons_zero]
  refine wpS_this [1] rfl (by kernel_rfl) (by simp only [pickL, nthL, List.cons_append, List.nil_append]; rfl) ?_
  repeat (go_big_quiet_step (fail))
  refine wpQuiet_nil ?_
  refine wpS_nil ?_
  refine then_normal ?_
  refine wp_seq ?_
  refine wp_region_N [(0, 1), (1, 1), (2, 3), (3, 1), (4, 1), (5, 1), (6, 1), (7, 1)] (by kernel_rfl) ?_
  have Cb3 := Mem.cell HM4.out 0 rfl
  refine wpS_this [0, 1] rfl (by kernel_rfl) (by simp only [pickL, nthL, List.cons_append, List.nil_append]; rfl) ?_
  repeat (go_big_quiet_step (fail))
  refine wpQuiet_nil ?_
  clear Cb3
  refine wpS_does2 (i := 2) (d := some 10) (rem := [_]) (out := [_, _]) rfl (by rfl) rfl Try.call36 (bfind_d R _ l hR hs hl d1 d2) rfl rfl HM4.out [1] rfl covS_nil rfl rfl ?_
  rintro W6 hm5 -
  have HM7 := Lib.hid hm5
  clear hm5
  simp only [Act.put, List.setIfInBounds_toArray, List.set_cons_succ, List.set_cons_zero]
  refine wpS_this [3, 4, 5, 6, 7] rfl (by kernel_rfl) (by simp only [pickL, nthL, List.cons_append, List.nil_append]; rfl) ?_
  repeat (go_big_quiet_step (fail))
  refine wpQuiet_nil ?_
  refine wpS_nil ?_
  refine then_normal ?_
  refine wp_seq ?_
  refine wp_region_N [(0, 1), (1, 1)] (by kernel_rfl) ?_
  refine wpS_this [0, 1] rfl (by kernel_rfl) (by simp only [pickL, nthL, List.cons_append, List.nil_append]; rfl) ?_
  repeat (go_big_quiet_step (fail))
  refine wpQuiet_nil ?_
  refine wpS_nil ?_
  refine then_normal ?_
  refine wp_ret ?_
  refine bodyPost_ret (results_tmp rfl _ _ _) rfl ?_
  exact does_ret (Mem.only (M := [_]) HM7.out [0] rfl) rfl rfl

set_option maxHeartbeats 4000000 in
set_option maxRecDepth 100000 in
theorem bwith_d (p : Option Addr) (c : Nat) (xs : List Vl) (y : Vl) (hs : Srt xs) (hl : xs.length ≤ 4398046510976) (hc : xs.length ≤ c) : DoesU Try.prog 24 #[.slice p xs.length c, vlV y] [rowT elemV (.slice p xs.length c) xs] (fun u => [rowT elemV u (insB y xs)]) := by
  intro w H hp
  have HM0 := Lib.hid (mem_refl hp)
  clear hp
  go_enter Try.func24, Try.ntmps24
  refine wp_seq ?_
  refine wp_region_N [(0, 3), (1, 1)] (by kernel_rfl) ?_
  refine wpS_boxA (i := 0) (dd := 3) rfl (by rfl) rfl rfl HM0.out covS_nil rfl ?_
  rintro b3 W2 hm1 -
  have HM4 := Lib.hid hm1
  clear hm1
  simp only [Act.put, List.setIfInBounds_toArray, List.set_cons_succ, List.set_cons_zero]
  refine wpS_this [1] rfl (by kernel_rfl) (by simp only [pickL, nthL, List.cons_append, List.nil_append]; rfl) ?_
  repeat (go_big_quiet_step (fail))
  refine wpQuiet_nil ?_
  refine wpS_nil ?_
  refine then_normal ?_
  refine wp_seq ?_
  have hqx0 := posB_le y.1 xs
  obtain ⟨q, hq'⟩ : ∃ q, posB y.1 xs = q := ⟨_, rfl⟩
  have hqx : q ≤ xs.length := by rw [← hq']; exact hqx0
  clear hqx0
  have hq := Lib.hid hq'
  clear hq'
  refine wp_region_N [(0, 1), (1, 1), (2, 1), (3, 3), (4, 1), (5, 1), (6, 1), (7, 1), (8, 1)] (by kernel_rfl) ?_
  have Cb3 := Mem.cell HM4.out 0 rfl
  refine wpS_this [0, 1, 2] rfl (by kernel_rfl) (by simp only [pickL, nthL, List.cons_append, List.nil_append]; rfl) ?_
  repeat (go_big_quiet_step (fail))
  refine wpQuiet_nil ?_
  clear Cb3
  refine wpS_does2 (i := 3) (d := some 11) (rem := [_]) (out := [_, _]) rfl (by rfl) rfl Try.call36 (bfind_d (rowT elemV _ _) _ xs vRow hs hl y.1.1 y.1.2) rfl rfl HM4.out [1] rfl covS_nil rfl rfl ?_
  rintro W6 hm5 -
  rw [show posB (y.1.1, y.1.2) xs = q from hq.out]
  have HM7 := Lib.hid hm5
  clear hm5
  simp only [Act.put, List.setIfInBounds_toArray, List.set_cons_succ, List.set_cons_zero]
  refine wpS_this [4, 5, 6, 7, 8] rfl (by kernel_rfl) (by simp only [pickL, nthL, List.cons_append, List.nil_append]; rfl) ?_
  repeat (go_big_quiet_step (fail))
  refine wpQuiet_nil ?_
  refine wpS_nil ?_
  refine then_normal ?_
  refine wp_seq ?_
  refine wp_region_N [(0, 1), (1, 1), (2, 1), (3, 3), (4, 3), (5, 1)] (by kernel_rfl) ?_
  have Cb3 := Mem.cell HM7.out 1 rfl
  refine wpS_this [0, 1, 2] rfl (by kernel_rfl) (by simp only [pickL, nthL, List.cons_append, List.nil_append]; rfl) ?_
  repeat (go_big_quiet_step (fail))
  refine wpQuiet_nil ?_
  clear Cb3
  refine wpS_build1 elemV (i := 3) (dd := 17) (y := y) rfl (by rfl) rfl rfl rfl (by decide) HM7.out covS_nil rfl ?_
  rintro b10 W11 hm12 -
  have HM13 := Lib.hid hm12
  clear hm12
  simp only [Act.put, List.setIfInBounds_toArray, List.set_cons_succ, List.set_cons_zero]
  refine wpS_doesU3 (i := 4) (d := some 18) (rem := [_]) rfl (by rfl) rfl Try.call37 (insV_d p _ c 1 q xs y hqx hl hc) rfl rfl rfl HM13.out [1, 0] rfl covS_nil (fun _ => rfl) rfl ?_
  rintro u16 W15 hm14 -
  have hm14q := hm14
  have HM17 := Lib.hid hm14q
  clear hm14q
  simp only [Act.put, List.setIfInBounds_toArray, List.set_cons_succ, List.set_cons_zero]
  refine wpS_this [5] rfl (by kernel_rfl) (by simp only [pickL, nthL, List.cons_append, List.nil_append]; rfl) ?_
  repeat (go_big_quiet_step (fail))
  refine wpQuiet_nil ?_
  refine wpS_nil ?_
  refine then_normal ?_
  refine wp_ret ?_
  refine bodyPost_ret (results_tmp rfl _ _ _) rfl ?_
  rw [insB_at, hq.out]
  exact doesU_ret (post := fun u => [rowT elemV u (xs.take q ++ y :: xs.drop q)]) (Mem.only (M := [_]) HM17.out [0] rfl) rfl

set_option maxHeartbeats 4000000 in
set_option maxRecDepth 100000 in
theorem bthose_d (R K : At) (v : Value) (l : List Vl) (hR : ∀ W H, R.p W H → RowAt elemV W v l) (hl : l.length ≤ 4398046510976 - 1) (g : Nat) (q : Value) (P : Vl → Bool) (eg : ∀ args w, (callFunc g args).run Try.prog w = .ok (.enter g args) w) (hc : ∀ x ∈ l, Does Try.prog g #[vlV x, q] [K, R] (.bool (P x)) [K, R]) : DoesU Try.prog 21 #[v, .func (.func g) #[] #[q]] [K, R] (fun u => [rowT elemV u (l.filter P), K, R]) := by
  intro w H hp
  have HM0 := Lib.hid (mem_refl hp)
  clear hp
  obtain ⟨p, cap, rfl, -⟩ := (HM0.out.row 1 rfl hR).form
  go_enter Try.func21, Try.ntmps21
  refine wp_seq ?_
  refine wp_region_N [(0, 1)] (by kernel_rfl) ?_
  refine wpS_this [0] rfl (by kernel_rfl) (by simp only [pickL, nthL, List.cons_append, List.nil_append]; rfl) ?_
  repeat (go_big_quiet_step (fail))
  refine wpQuiet_nil ?_
  refine wpS_nil ?_
  refine then_normal ?_
  refine wp_seq ?_
  refine wp_region_N [(0, 1)] (by kernel_rfl) ?_
  refine wpS_this [0] rfl (by kernel_rfl) (by simp only [pickL, nthL, List.cons_append, List.nil_append]; rfl) ?_
  repeat (go_big_quiet_step (fail))
  refine wpQuiet_nil ?_
  refine wpS_nil ?_
  refine then_normal ?_
  refine wp_seq ?_
  refine wp_seq ?_
  refine wp_region_N [(0, 1), (1, 1), (2, 1)] (by kernel_rfl) ?_
  refine wpS_this [0, 1, 2] rfl (by kernel_rfl) (by simp only [pickL, nthL, List.cons_append, List.nil_append]; rfl) ?_
  repeat (go_big_quiet_step (fail))
  refine wpQuiet_nil ?_
  refine wpS_nil ?_
  refine then_normal ?_
  refine wp_block ?_
  refine wp_loop_F [5, 7, 10, 11, 12, 13, 14, 15, 16, 17, 18, 19, 20, 21] (fun n vs W' => ∃ (k : Nat) (pu : Option Addr) (cu : Nat), n = l.length - k ∧ vs 10 = .int .i64 (k : Int) ∧ vs 5 = .slice pu ((l.take k).filter P).length cu ∧ k ≤ l.length ∧ Mem [rowT elemV (.slice pu ((l.take k).filter P).length cu) ((l.take k).filter P), K, R] H w W') (n0 := l.length) ?_ ?_
  · exact ⟨0, none, 0, rfl, rfl, rfl, Nat.zero_le _, Mem.nilRow elemV (Mem.only (M := [_, _]) HM0.out [0, 0] rfl)⟩
  rintro n vs W' ⟨k, pu, cu, rfl, e10, e5, hk, hm⟩
  simp only [putAll, List.map_cons, List.map_nil, Act.put, List.setIfInBounds_toArray, List.set_cons_succ, List.set_cons_zero]
  rw [e10, e5]
  clear e10 e5
  have HM1 := Lib.hid hm
  clear hm
  refine wp_seq ?_
  refine wp_region_N [(0, 1)] (by kernel_rfl) ?_
  refine wpS_this [0] rfl (by kernel_rfl) (by simp only [pickL, nthL, List.cons_append, List.nil_append]; rfl) ?_
  repeat (go_big_quiet_step (fail))
  refine wpQuiet_nil ?_
  refine wpS_nil ?_
  refine then_normal ?_
  refine wp_seq ?_
  refine wp_cond_split rfl (fun h2 => ?_) (fun h2 => ?_)
  · have hk1 : k + 1 ≤ l.length := by have : (k : Int) < ((l.length : Nat) : Int) := (by simpa using h2); omega
    clear h2
    obtain ⟨y, hy'⟩ : ∃ y, l[k]? = some y := ⟨_, List.getElem?_eq_getElem (hk1)⟩
    have hy := Lib.hid hy'
    clear hy'
    refine wp_skip ?_
    refine then_normal ?_
    refine wp_seq ?_
    refine wp_block ?_
    refine wp_seq ?_
    refine wp_region_N [(0, 1), (1, 1), (2, 3), (3, 3)] (by kernel_rfl) ?_
    refine wpS_index (E := elemV) (i := 0) (d := some 12) rfl (by rfl) rfl rfl rfl (HM1.out.row 2 rfl hR) (hy.out) rfl ?_
    intro eb3 eo4 hc5
    simp only [Act.put, List.setIfInBounds_toArray, List.set_cons_succ, List.set_cons_zero]
    refine wpS_loadA (i := 1) (d := some 13) (cells := [.int .i64 y.1.1, .int .i64 y.1.2, .string y.2]) rfl (by rfl) rfl rfl hc5 Try.underlying41 rfl (by kernel_rfl) rfl ?_
    simp only [Act.put, List.setIfInBounds_toArray, List.set_cons_succ, List.set_cons_zero]
    refine wpS_alloc (i := 2) (dd := 7) (z := .agg #[.int .i64 0, .int .i64 0, .string ByteArray.empty]) (cs := #[.int .i64 0, .int .i64 0, .string ByteArray.empty]) rfl (by rfl) rfl (by kernel_rfl) rfl HM1.out covS_nil rfl ?_
    rintro b8 W7 hm6 -
    have HM9 := Lib.hid hm6
    clear hm6
    simp only [Act.put, List.setIfInBounds_toArray, List.set_cons_succ, List.set_cons_zero]
    refine wpS_storeA (i := 3) (L2 := [_, _, _]) (cs' := [.int .i64 y.1.1, .int .i64 y.1.2, .string y.2]) rfl (by rfl) rfl rfl rfl (by kernel_rfl) (by rfl) HM9.out 0 rfl rfl rfl rfl covS_nil rfl ?_
    rintro W11 hm10 -
    have HM12 := Lib.hid hm10
    clear hm10
    refine wpS_nil ?_
    refine then_normal ?_
    refine wp_seq ?_
    obtain ⟨b, hb'⟩ := bool_letter (P y)
    have hb := Lib.hid hb'
    clear hb'
    cases b
    · have hfl : Hid ((l.take (k + 1)).filter P = (l.take k).filter P) := Lib.hid (by rw [filter_step hy.out, hb.out]; simp)
      refine wp_region_N [(0, 1), (1, 1), (2, 3)] (by kernel_rfl) ?_
      have Cb7 := Mem.cell HM12.out 0 rfl
      refine wpS_this [0, 1] rfl (by kernel_rfl) (by simp only [pickL, nthL, List.cons_append, List.nil_append]; rfl) ?_
      repeat (go_big_quiet_step (fail))
      refine wpQuiet_nil ?_
      clear Cb7
      refine wpS_doesV1 (i := 2) (d := some 16) (rem := [_, _]) (out := [_, _, _, _]) rfl (by rfl) rfl rfl eg (hc y (List.mem_of_getElem? hy.out)) rfl (rfl) HM12.out [2, 2] rfl covS_nil rfl rfl ?_
      rintro W14 hm13 -
      have HM15 := Lib.hid hm13
      clear hm13
      simp only [Act.put, List.setIfInBounds_toArray, List.set_cons_succ, List.set_cons_zero]
      rw [hb.out]
      refine wpS_nil ?_
      refine then_normal ?_
      refine wp_cond_false rfl ?_
      refine wp_skip ?_
      refine block_normal ?_
      refine then_normal ?_
      refine wp_region_N [(0, 1), (1, 1)] (by kernel_rfl) ?_
      refine wpS_this [0, 1] rfl (by kernel_rfl) (by simp only [pickL, nthL, List.cons_append, List.nil_append]; rfl) ?_
      repeat (go_big_quiet_step (fail))
      refine wpQuiet_nil ?_
      refine wpS_nil ?_
      refine then_normal ?_
      refine ⟨by kernel_rfl, ?_⟩
      refine ⟨l.length - (k + 1), by omega, k + 1, pu, cu, rfl, rfl, by rw [hfl.out]; rfl, hk1, ?_⟩
      rw [hfl.out]
      exact (Mem.only (M := [_, _, _]) HM15.out [3, 0, 0] rfl)
    · have hfl : Hid ((l.take (k + 1)).filter P = (l.take k).filter P ++ [y]) := Lib.hid (by rw [filter_step hy.out, hb.out]; simp)
      refine wp_region_N [(0, 1), (1, 1), (2, 3)] (by kernel_rfl) ?_
      have Cb7 := Mem.cell HM12.out 0 rfl
      refine wpS_this [0, 1] rfl (by kernel_rfl) (by simp only [pickL, nthL, List.cons_append, List.nil_append]; rfl) ?_
      repeat (go_big_quiet_step (fail))
      refine wpQuiet_nil ?_
      clear Cb7
      refine wpS_doesV1 (i := 2) (d := some 16) (rem := [_, _]) (out := [_, _, _, _]) rfl (by rfl) rfl rfl eg (hc y (List.mem_of_getElem? hy.out)) rfl (rfl) HM12.out [2, 2] rfl covS_nil rfl rfl ?_
      rintro W17 hm16 -
      have HM18 := Lib.hid hm16
      clear hm16
      simp only [Act.put, List.setIfInBounds_toArray, List.set_cons_succ, List.set_cons_zero]
      rw [hb.out]
      refine wpS_nil ?_
      refine then_normal ?_
      refine wp_cond_true rfl ?_
      have hff : Hid (((l.take k).filter P).length ≤ l.length) := Lib.hid (filter_le P l k)
      refine wp_region_N [(0, 1), (1, 1), (2, 3), (3, 3), (4, 1)] (by kernel_rfl) ?_
      have Cb7 := Mem.cell HM18.out 2 rfl
      refine wpS_this [0, 1] rfl (by kernel_rfl) (by simp only [pickL, nthL, List.cons_append, List.nil_append]; rfl) ?_
      repeat (go_big_quiet_step (fail))
      refine wpQuiet_nil ?_
      clear Cb7
      refine wpS_build1 elemV (i := 2) (dd := 19) (y := y) rfl (by rfl) rfl rfl rfl (by decide) HM18.out covS_nil rfl ?_
      rintro b21 W22 hm23 -
      have HM24 := Lib.hid hm23
      clear hm23
      simp only [Act.put, List.setIfInBounds_toArray, List.set_cons_succ, List.set_cons_zero]
      refine wpS_append (E := elemV) (i := 3) (d := some 20) (L2 := [_, _, _, _]) rfl (by rfl) rfl HM24.out 4 rfl rfl (HM24.out.src 0 rfl rowT_reads) rfl (by show (_ + 1) * 32 ≤ 140737488355328; have := hff.out; omega) rfl covS_nil rfl ?_
      rintro u27 W28 hm29 -
      have HM30 := Lib.hid hm29
      clear hm29
      simp only [Act.put, List.setIfInBounds_toArray, List.set_cons_succ, List.set_cons_zero]
      obtain ⟨up, uc, hup⟩ := row_form (Mem.src HM30.out 0 rfl rowT_reads)
      subst hup
      refine wpS_this [4] rfl (by kernel_rfl) (by simp only [pickL, nthL, List.cons_append, List.nil_append]; rfl) ?_
      repeat (go_big_quiet_step (fail))
      refine wpQuiet_nil ?_
      refine wpS_nil ?_
      refine block_normal ?_
      refine then_normal ?_
      refine wp_region_N [(0, 1), (1, 1)] (by kernel_rfl) ?_
      refine wpS_this [0, 1] rfl (by kernel_rfl) (by simp only [pickL, nthL, List.cons_append, List.nil_append]; rfl) ?_
      repeat (go_big_quiet_step (fail))
      refine wpQuiet_nil ?_
      refine wpS_nil ?_
      refine then_normal ?_
      refine ⟨by kernel_rfl, ?_⟩
      refine ⟨l.length - (k + 1), by omega, k + 1, up, uc, rfl, rfl, by rw [hfl.out]; rfl, hk1, ?_⟩
      rw [hfl.out]
      exact (Mem.only (M := [_, _, _]) HM30.out [0, 1, 1] rfl)
  · have hge : Hid (l.length ≤ k) := Lib.hid (by have : ¬ (k : Int) < ((l.length : Nat) : Int) := (by simpa using h2); omega)
    clear h2
    refine wp_exit ?_
    refine then_exit (then_exit (block_exit ?_))
    refine then_normal ?_
    refine wp_seq ?_
    refine wp_region_N [(0, 1), (1, 1)] (by kernel_rfl) ?_
    refine wpS_this [0, 1] rfl (by kernel_rfl) (by simp only [pickL, nthL, List.cons_append, List.nil_append]; rfl) ?_
    repeat (go_big_quiet_step (fail))
    refine wpQuiet_nil ?_
    refine wpS_nil ?_
    refine then_normal ?_
    refine wp_ret ?_
    refine bodyPost_ret (results_tmp rfl _ _ _) rfl ?_
    rw [show l.filter P = (l.take k).filter P from by rw [List.take_of_length_le hge.out]]
    exact doesU_ret (post := fun u => [rowT elemV u ((l.take k).filter P), K, R]) (Mem.only (M := [_, _, _]) HM1.out [0, 0, 0] rfl) rfl

end Go.Proofs.Ytneeidedadlioaa
