/- Bags: the landed bag's Join. -/
import Derived.Test.YtneeidedadlioaaBgW
namespace Go.Proofs.Ytneeidedadlioaa
open Go Go.RowKit Go.BigFrame

set_option maxHeartbeats 4000000 in
set_option maxRecDepth 100000 in
theorem bjoin_d (R : At) (sa : Value) (a : Bg) (ha : Reads elemV R sa a.v) (la : a.v.length ≤ 4398046510976) (sb : Value) (b : Bg) (hb : Reads elemV R sb b.v) (lb : b.v.length ≤ 4398046510976) (x : Bg) (e : Int) (hx : joinBR a b = (x, e)) : DoesU Try.prog 9 #[bgV a.k sa, bgV b.k sb] [R] (fun u => [bagE u x e, R]) := by
  intro w H hp
  have HM0 := Lib.hid (mem_refl hp)
  clear hp
  obtain ⟨pa, ca, rfl⟩ := row_form (Mem.src HM0.out 0 rfl ha)
  obtain ⟨pb, cb, rfl⟩ := row_form (Mem.src HM0.out 0 rfl hb)
  go_enter Try.func9, Try.ntmps9
  refine wp_seq ?_
  refine wp_region_N [(0, 3), (1, 3), (2, 3), (3, 1)] (by kernel_rfl) ?_
  refine wpS_boxA (i := 0) (dd := 2) rfl (by rfl) rfl rfl HM0.out covS_nil rfl ?_
  rintro b3 W2 hm1 -
  have HM4 := Lib.hid hm1
  clear hm1
  simp only [Act.put, List.setIfInBounds_toArray, List.set_cons_succ, List.set_cons_zero]
  refine wpS_boxA (i := 1) (dd := 3) rfl (by rfl) rfl rfl HM4.out covS_nil rfl ?_
  rintro b7 W6 hm5 -
  have HM8 := Lib.hid hm5
  clear hm5
  simp only [Act.put, List.setIfInBounds_toArray, List.set_cons_succ, List.set_cons_zero]
  refine wpS_alloc (i := 2) (dd := 4) (z := bgV noB.k (.slice none 0 0)) (cs := (bgC noB.k (.slice none 0 0)).toArray) rfl (by rfl) rfl (by kernel_rfl) rfl HM8.out covS_nil rfl ?_
  rintro b11 W10 hm9 -
  have HM12 := Lib.hid hm9
  clear hm9
  simp only [Act.put, List.setIfInBounds_toArray, List.set_cons_succ, List.set_cons_zero]
  refine wpS_this [3] rfl (by kernel_rfl) (by simp only [pickL, nthL, List.cons_append, List.nil_append]; rfl) ?_
  repeat (go_big_quiet_step (fail))
  refine wpQuiet_nil ?_
  refine wpS_nil ?_
  refine then_normal ?_
  refine wp_seq ?_
  refine wp_seq ?_
  rcases join_ways hx with ⟨hma, rfl, rfl⟩ | ⟨hma, hmb, rfl, rfl⟩ | ⟨hma, hmb, hjl, rfl, rfl⟩ | ⟨hma, hmb, hjl, hxe, rfl⟩
  · replace hma := Lib.hid hma
    clear hx
    refine wp_region_N [(0, 1), (1, 3), (2, 1), (3, 1), (4, 1), (5, 3), (6, 1), (7, 1)] (by kernel_rfl) ?_
    refine wpS_loadA (i := 0) (d := some 9) (cells := bgC (a.k) (.slice pa a.v.length ca)) rfl (by rfl) rfl rfl (HM12.out.part 2 rfl (bgC_all)) Try.underlying27 rfl (by kernel_rfl) rfl ?_
    simp only [Act.put, List.setIfInBounds_toArray, List.set_cons_succ, List.set_cons_zero]
    refine wpS_does1 (i := 1) (d := some 10) (rem := [_, _, _]) (out := [_, _, _, _]) rfl (by rfl) rfl Try.call12 (bmay_d R _ a ha la) rfl HM12.out [3] rfl covS_nil rfl rfl ?_
    rintro W14 hm13 -
    rw [hma.out]
    have HM15 := Lib.hid hm13
    clear hm13
    simp only [Act.put, List.setIfInBounds_toArray, List.set_cons_succ, List.set_cons_zero]
    refine wpS_this [2, 3] rfl (by kernel_rfl) (by simp only [pickL, nthL, List.cons_append, List.nil_append]; rfl) ?_
    repeat (go_big_quiet_step (fail))
    refine wpQuiet_nil ?_
    refine wpS_skip (i := 4) (d := some 13) rfl (by rfl) rfl ?_
    simp only [Act.put, List.setIfInBounds_toArray, List.set_cons_succ, List.set_cons_zero]
    refine wpS_skip (i := 5) (d := some 14) rfl (by rfl) rfl ?_
    simp only [Act.put, List.setIfInBounds_toArray, List.set_cons_succ, List.set_cons_zero]
    refine wpS_this [6, 7] rfl (by kernel_rfl) (by simp only [pickL, nthL, List.cons_append, List.nil_append]; rfl) ?_
    repeat (go_big_quiet_step (fail))
    refine wpQuiet_nil ?_
    refine wpS_nil ?_
    refine then_normal ?_
    refine wp_cond_true rfl ?_
    refine wp_seq ?_
    refine wp_region_N [(0, 1), (1, 3), (2, 1)] (by kernel_rfl) ?_
    refine wpS_this [0] rfl (by kernel_rfl) (by simp only [pickL, nthL, List.cons_append, List.nil_append]; rfl) ?_
    repeat (go_big_quiet_step (fail))
    refine wpQuiet_nil ?_
    refine wpS_storeA (i := 1) (L2 := [_, _, _]) (cs' := bgC (noB.k) (.slice none 0 0)) rfl (by rfl) rfl rfl rfl (by kernel_rfl) (bgC_one _ _ _) HM15.out 1 rfl rfl (by kernel_rfl) (by kernel_rfl) covS_nil rfl ?_
    rintro W17 hm16 -
    have HM18 := Lib.hid hm16
    clear hm16
    refine wpS_this [2] rfl (by kernel_rfl) (by simp only [pickL, nthL, List.cons_append, List.nil_append]; rfl) ?_
    repeat (go_big_quiet_step (fail))
    refine wpQuiet_nil ?_
    refine wpS_nil ?_
    refine then_normal ?_
    refine wp_ret ?_
    refine then_ret ?_
    refine ret_cell_tmp rfl HM18.out 0 rfl rfl Try.underlying27 rfl (by kernel_rfl) rfl rfl ?_
    exact doesU_ret (post := fun u => [bagE u noB 1, R]) (Mem.toBagE (x := noB) (Mem.nilRow elemV (Mem.only (M := [_]) HM18.out [1] rfl))) rfl
  · replace hma := Lib.hid hma
    replace hmb := Lib.hid hmb
    clear hx
    refine wp_region_N [(0, 1), (1, 3), (2, 1), (3, 1), (4, 1), (5, 3), (6, 1), (7, 1)] (by kernel_rfl) ?_
    refine wpS_loadA (i := 0) (d := some 9) (cells := bgC (a.k) (.slice pa a.v.length ca)) rfl (by rfl) rfl rfl (HM12.out.part 2 rfl (bgC_all)) Try.underlying27 rfl (by kernel_rfl) rfl ?_
    simp only [Act.put, List.setIfInBounds_toArray, List.set_cons_succ, List.set_cons_zero]
    refine wpS_does1 (i := 1) (d := some 10) (rem := [_, _, _]) (out := [_, _, _, _]) rfl (by rfl) rfl Try.call12 (bmay_d R _ a ha la) rfl HM12.out [3] rfl covS_nil rfl rfl ?_
    rintro W20 hm19 -
    rw [hma.out]
    have HM21 := Lib.hid hm19
    clear hm19
    simp only [Act.put, List.setIfInBounds_toArray, List.set_cons_succ, List.set_cons_zero]
    refine wpS_this [2, 3] rfl (by kernel_rfl) (by simp only [pickL, nthL, List.cons_append, List.nil_append]; rfl) ?_
    repeat (go_big_quiet_step (fail))
    refine wpQuiet_nil ?_
    refine wpS_loadA (i := 4) (d := some 13) (cells := bgC (b.k) (.slice pb b.v.length cb)) rfl (by rfl) rfl rfl (HM21.out.part 2 rfl (bgC_all)) Try.underlying27 rfl (by kernel_rfl) rfl ?_
    simp only [Act.put, List.setIfInBounds_toArray, List.set_cons_succ, List.set_cons_zero]
    refine wpS_does1 (i := 5) (d := some 14) (rem := [_, _, _]) (out := [_, _, _, _]) rfl (by rfl) rfl Try.call12 (bmay_d R _ b hb lb) rfl HM21.out [0] rfl covS_nil rfl rfl ?_
    rintro W23 hm22 -
    rw [hmb.out]
    have HM24 := Lib.hid hm22
    clear hm22
    simp only [Act.put, List.setIfInBounds_toArray, List.set_cons_succ, List.set_cons_zero]
    refine wpS_this [6, 7] rfl (by kernel_rfl) (by simp only [pickL, nthL, List.cons_append, List.nil_append]; rfl) ?_
    repeat (go_big_quiet_step (fail))
    refine wpQuiet_nil ?_
    refine wpS_nil ?_
    refine then_normal ?_
    refine wp_cond_true rfl ?_
    refine wp_seq ?_
    refine wp_region_N [(0, 1), (1, 3), (2, 1)] (by kernel_rfl) ?_
    refine wpS_this [0] rfl (by kernel_rfl) (by simp only [pickL, nthL, List.cons_append, List.nil_append]; rfl) ?_
    repeat (go_big_quiet_step (fail))
    refine wpQuiet_nil ?_
    refine wpS_storeA (i := 1) (L2 := [_, _, _]) (cs' := bgC (noB.k) (.slice none 0 0)) rfl (by rfl) rfl rfl rfl (by kernel_rfl) (bgC_one _ _ _) HM24.out 1 rfl rfl (by kernel_rfl) (by kernel_rfl) covS_nil rfl ?_
    rintro W26 hm25 -
    have HM27 := Lib.hid hm25
    clear hm25
    refine wpS_this [2] rfl (by kernel_rfl) (by simp only [pickL, nthL, List.cons_append, List.nil_append]; rfl) ?_
    repeat (go_big_quiet_step (fail))
    refine wpQuiet_nil ?_
    refine wpS_nil ?_
    refine then_normal ?_
    refine wp_ret ?_
    refine then_ret ?_
    refine ret_cell_tmp rfl HM27.out 0 rfl rfl Try.underlying27 rfl (by kernel_rfl) rfl rfl ?_
    exact doesU_ret (post := fun u => [bagE u noB 1, R]) (Mem.toBagE (x := noB) (Mem.nilRow elemV (Mem.only (M := [_]) HM27.out [1] rfl))) rfl
  · replace hma := Lib.hid hma
    replace hmb := Lib.hid hmb
    replace hjl := Lib.hid hjl
    clear hx
    refine wp_region_N [(0, 1), (1, 3), (2, 1), (3, 1), (4, 1), (5, 3), (6, 1), (7, 1)] (by kernel_rfl) ?_
    refine wpS_loadA (i := 0) (d := some 9) (cells := bgC (a.k) (.slice pa a.v.length ca)) rfl (by rfl) rfl rfl (HM12.out.part 2 rfl (bgC_all)) Try.underlying27 rfl (by kernel_rfl) rfl ?_
    simp only [Act.put, List.setIfInBounds_toArray, List.set_cons_succ, List.set_cons_zero]
    refine wpS_does1 (i := 1) (d := some 10) (rem := [_, _, _]) (out := [_, _, _, _]) rfl (by rfl) rfl Try.call12 (bmay_d R _ a ha la) rfl HM12.out [3] rfl covS_nil rfl rfl ?_
    rintro W29 hm28 -
    rw [hma.out]
    have HM30 := Lib.hid hm28
    clear hm28
    simp only [Act.put, List.setIfInBounds_toArray, List.set_cons_succ, List.set_cons_zero]
    refine wpS_this [2, 3] rfl (by kernel_rfl) (by simp only [pickL, nthL, List.cons_append, List.nil_append]; rfl) ?_
    repeat (go_big_quiet_step (fail))
    refine wpQuiet_nil ?_
    refine wpS_loadA (i := 4) (d := some 13) (cells := bgC (b.k) (.slice pb b.v.length cb)) rfl (by rfl) rfl rfl (HM30.out.part 2 rfl (bgC_all)) Try.underlying27 rfl (by kernel_rfl) rfl ?_
    simp only [Act.put, List.setIfInBounds_toArray, List.set_cons_succ, List.set_cons_zero]
    refine wpS_does1 (i := 5) (d := some 14) (rem := [_, _, _]) (out := [_, _, _, _]) rfl (by rfl) rfl Try.call12 (bmay_d R _ b hb lb) rfl HM30.out [0] rfl covS_nil rfl rfl ?_
    rintro W32 hm31 -
    rw [hmb.out]
    have HM33 := Lib.hid hm31
    clear hm31
    simp only [Act.put, List.setIfInBounds_toArray, List.set_cons_succ, List.set_cons_zero]
    refine wpS_this [6, 7] rfl (by kernel_rfl) (by simp only [pickL, nthL, List.cons_append, List.nil_append]; rfl) ?_
    repeat (go_big_quiet_step (fail))
    refine wpQuiet_nil ?_
    refine wpS_nil ?_
    refine then_normal ?_
    refine wp_cond_false rfl ?_
    refine wp_skip ?_
    refine then_normal ?_
    refine wp_seq ?_
    refine wp_region_N [(0, 1), (1, 1), (2, 0), (3, 3), (4, 1)] (by kernel_rfl) ?_
    refine wpS_this [0] rfl (by kernel_rfl) (by simp only [pickL, nthL, List.cons_append, List.nil_append]; rfl) ?_
    repeat (go_big_quiet_step (fail))
    refine wpQuiet_nil ?_
    refine wpS_load1 (i := 1) (d := some 19) (u := .slice pa a.v.length ca) rfl (by rfl) rfl rfl (HM33.out.part1 3 rfl bgC_sl) Try.underlying25 rfl rfl ?_
    simp only [Act.put, List.setIfInBounds_toArray, List.set_cons_succ, List.set_cons_zero]
    refine wpS_funcC1 (i := 2) (d := some 20) (v1 := .pointer (some ⟨b7, 0, none⟩)) rfl (by rfl) rfl rfl rfl ?_
    simp only [Act.put, List.setIfInBounds_toArray, List.set_cons_succ, List.set_cons_zero]
    refine wpS_doesU2 (i := 3) (d := some 21) (rem := [_, _]) rfl (by rfl) rfl Try.call21 (bthose_d R (boxT b7 (.cells (bgC b.k (.slice pb b.v.length cb)).toArray 27 (0, 0))) _ a.v (fun W H h => rowAt_src (ha W H h)) (by have := (mayB_iff.1 hma.out).len; omega) 22 (.pointer (some ⟨b7, 0, none⟩)) (fun x => heldL b.v x.1 || !hasV b.k x.1) Try.call22 (fun x _ => bjoin1_d R b7 _ b hb lb (mayB_iff.1 hmb.out).srt x)) rfl rfl HM33.out [2, 0] rfl covS_nil (fun _ => rfl) rfl ?_
    rintro u36 W35 hm34 -
    have hm34q := hm34
    have HM37 := Lib.hid hm34q
    clear hm34q
    simp only [Act.put, List.setIfInBounds_toArray, List.set_cons_succ, List.set_cons_zero]
    refine wpS_this [4] rfl (by kernel_rfl) (by simp only [pickL, nthL, List.cons_append, List.nil_append]; rfl) ?_
    repeat (go_big_quiet_step (fail))
    refine wpQuiet_nil ?_
    refine wpS_nil ?_
    refine then_normal ?_
    refine wp_seq ?_
    refine wp_seq ?_
    refine wp_region_N [(0, 1), (1, 1), (2, 1), (3, 1)] (by kernel_rfl) ?_
    refine wpS_this [0] rfl (by kernel_rfl) (by simp only [pickL, nthL, List.cons_append, List.nil_append]; rfl) ?_
    repeat (go_big_quiet_step (fail))
    refine wpQuiet_nil ?_
    refine wpS_load1 (i := 1) (d := some 23) (u := .slice pb b.v.length cb) rfl (by rfl) rfl rfl (HM37.out.part1 1 rfl bgC_sl) Try.underlying25 rfl rfl ?_
    simp only [Act.put, List.setIfInBounds_toArray, List.set_cons_succ, List.set_cons_zero]
    refine wpS_this [2, 3] rfl (by kernel_rfl) (by simp only [pickL, nthL, List.cons_append, List.nil_append]; rfl) ?_
    repeat (go_big_quiet_step (fail))
    refine wpQuiet_nil ?_
    refine wpS_nil ?_
    refine then_normal ?_
    refine wp_block ?_
    refine wp_loop_F [6, 8, 25, 26, 27, 28, 29, 30, 31, 32, 33, 34, 35, 36, 37, 38] (fun n vs W' => ∃ (k : Nat) (pu : Option Addr) (cu : Nat), n = b.v.length - k ∧ vs 25 = .int .i64 (k : Int) ∧ vs 6 = .slice pu (foldI (keptA a b) ((b.v.take k).filter fun x => !hasV a.k x.1)).length cu ∧ k ≤ b.v.length ∧ Mem [rowT elemV (.slice pu (foldI (keptA a b) ((b.v.take k).filter fun x => !hasV a.k x.1)).length cu) (foldI (keptA a b) ((b.v.take k).filter fun x => !hasV a.k x.1)), boxT b7 (.cells (bgC b.k (.slice pb b.v.length cb)).toArray 27 (0, 0)), boxT b3 (.cells (bgC a.k (.slice pa a.v.length ca)).toArray 27 (0, 0)), boxT b11 (.cells (bgC noB.k (.slice none 0 0)).toArray 27 (0, 0)), R] H w W') (n0 := b.v.length) ?_ ?_
    · obtain ⟨pu, cu, hu0⟩ := row_form (Mem.src HM37.out 0 rfl rowT_reads)
      subst hu0
      exact ⟨0, pu, cu, rfl, rfl, rfl, Nat.zero_le _, (Mem.only (M := [_, _, _, _, _]) HM37.out [0, 0, 2, 1, 0] rfl)⟩
    rintro n vs W' ⟨k, pu, cu, rfl, e25, e6, hk, hm⟩
    simp only [putAll, List.map_cons, List.map_nil, Act.put, List.setIfInBounds_toArray, List.set_cons_succ, List.set_cons_zero]
    rw [e25, e6]
    clear e25 e6
    have HM38 := Lib.hid hm
    clear hm
    refine wp_seq ?_
    refine wp_region_N [(0, 1)] (by kernel_rfl) ?_
    refine wpS_this [0] rfl (by kernel_rfl) (by simp only [pickL, nthL, List.cons_append, List.nil_append]; rfl) ?_
    repeat (go_big_quiet_step (fail))
    refine wpQuiet_nil ?_
    refine wpS_nil ?_
    refine then_normal ?_
    refine wp_seq ?_
    refine wp_cond_split rfl (fun h39 => ?_) (fun h39 => ?_)
    · have hk1 : k + 1 ≤ b.v.length := by have : (k : Int) < ((b.v.length : Nat) : Int) := (by simpa using h39); omega
      clear h39
      obtain ⟨y, hy'⟩ : ∃ y, b.v[k]? = some y := ⟨_, List.getElem?_eq_getElem (hk1)⟩
      have hy := Lib.hid hy'
      clear hy'
      refine wp_skip ?_
      refine then_normal ?_
      refine wp_seq ?_
      refine wp_block ?_
      refine wp_seq ?_
      refine wp_region_N [(0, 1), (1, 1), (2, 3), (3, 3)] (by kernel_rfl) ?_
      refine wpS_index (E := elemV) (i := 0) (d := some 27) rfl (by rfl) rfl rfl rfl (HM38.out.row 4 rfl (fun W H h => rowAt_src (hb W H h))) (hy.out) rfl ?_
      intro eb40 eo41 hc42
      simp only [Act.put, List.setIfInBounds_toArray, List.set_cons_succ, List.set_cons_zero]
      refine wpS_loadA (i := 1) (d := some 28) (cells := [.int .i64 y.1.1, .int .i64 y.1.2, .string y.2]) rfl (by rfl) rfl rfl hc42 Try.underlying41 rfl (by kernel_rfl) rfl ?_
      simp only [Act.put, List.setIfInBounds_toArray, List.set_cons_succ, List.set_cons_zero]
      refine wpS_alloc (i := 2) (dd := 8) (z := .agg #[.int .i64 0, .int .i64 0, .string ByteArray.empty]) (cs := #[.int .i64 0, .int .i64 0, .string ByteArray.empty]) rfl (by rfl) rfl (by kernel_rfl) rfl HM38.out covS_nil rfl ?_
      rintro b45 W44 hm43 -
      have HM46 := Lib.hid hm43
      clear hm43
      simp only [Act.put, List.setIfInBounds_toArray, List.set_cons_succ, List.set_cons_zero]
      refine wpS_storeA (i := 3) (L2 := [_, _, _, _, _]) (cs' := [.int .i64 y.1.1, .int .i64 y.1.2, .string y.2]) rfl (by rfl) rfl rfl rfl (by kernel_rfl) (by rfl) HM46.out 0 rfl rfl rfl rfl covS_nil rfl ?_
      rintro W48 hm47 -
      have HM49 := Lib.hid hm47
      clear hm47
      refine wpS_nil ?_
      refine then_normal ?_
      refine wp_seq ?_
      obtain ⟨q, hq'⟩ := bool_letter (hasV a.k y.1)
      have hq := Lib.hid hq'
      clear hq'
      cases q
      · have hfl : Hid (foldI (keptA a b) ((b.v.take (k + 1)).filter fun x => !hasV a.k x.1) = insB y (foldI (keptA a b) ((b.v.take k).filter fun x => !hasV a.k x.1))) := Lib.hid (by rw [foldI_step _ _ hy.out, hq.out]; rfl)
        refine wp_region_N [(0, 1), (1, 1), (2, 1), (3, 1), (4, 3), (5, 1)] (by kernel_rfl) ?_
        refine wpS_this [0] rfl (by kernel_rfl) (by simp only [pickL, nthL, List.cons_append, List.nil_append]; rfl) ?_
        repeat (go_big_quiet_step (fail))
        refine wpQuiet_nil ?_
        refine wpS_loadA (i := 1) (d := some 30) (cells := vcC (a.k)) rfl (by rfl) rfl rfl (HM49.out.part 3 rfl (bgC_vc)) Try.underlying24 rfl (by kernel_rfl) rfl ?_
        simp only [Act.put, List.setIfInBounds_toArray, List.set_cons_succ, List.set_cons_zero]
        have Cb8 := Mem.cell HM49.out 0 rfl
        refine wpS_this [2, 3] rfl (by kernel_rfl) (by simp only [pickL, nthL, List.cons_append, List.nil_append]; rfl) ?_
        repeat (go_big_quiet_step (fail))
        refine wpQuiet_nil ?_
        clear Cb8
        refine wpS_does2 (i := 4) (d := some 33) (rem := [_, _, _, _, _, _]) (out := [_, _, _, _, _, _]) rfl (by rfl) rfl Try.call14 (chas_d a.k y.1.1 y.1.2) rfl rfl HM49.out [] rfl covS_nil rfl rfl ?_
        rintro W51 hm50 -
        rw [show hasV a.k (y.1.1, y.1.2) = _ from hq.out]
        have HM52 := Lib.hid hm50
        clear hm50
        simp only [Act.put, List.setIfInBounds_toArray, List.set_cons_succ, List.set_cons_zero]
        refine wpS_this [5] rfl (by kernel_rfl) (by simp only [pickL, nthL, List.cons_append, List.nil_append]; rfl) ?_
        repeat (go_big_quiet_step (fail))
        refine wpQuiet_nil ?_
        refine wpS_nil ?_
        refine then_normal ?_
        refine wp_cond_true rfl ?_
        have hpl : Hid ((foldI (keptA a b) ((b.v.take k).filter fun x => !hasV a.k x.1)).length ≤ 64) := Lib.hid (part_len (mayB_iff.1 hma.out) (mayB_iff.1 hmb.out) k)
        have hcu : Hid ((foldI (keptA a b) ((b.v.take k).filter fun x => !hasV a.k x.1)).length ≤ cu) := Lib.hid (by obtain ⟨_, _, _, e1, e2, _⟩ := Mem.src HM52.out 1 rfl rowT_reads; simp only [Value.slice.injEq] at e1; omega)
        refine wp_region_N [(0, 1), (1, 1), (2, 3), (3, 1)] (by kernel_rfl) ?_
        have Cb8 := Mem.cell HM52.out 0 rfl
        refine wpS_this [0, 1] rfl (by kernel_rfl) (by simp only [pickL, nthL, List.cons_append, List.nil_append]; rfl) ?_
        repeat (go_big_quiet_step (fail))
        refine wpQuiet_nil ?_
        clear Cb8
        refine wpS_doesU2 (i := 2) (d := some 37) (rem := [_, _, _, _, _]) rfl (by rfl) rfl Try.call24 (bwith_d pu cu (foldI (keptA a b) ((b.v.take k).filter fun x => !hasV a.k x.1)) y (srt_part (mayB_iff.1 hma.out) (mayB_iff.1 hmb.out) k) (by have := hpl.out; omega) hcu.out) rfl rfl HM52.out [1] rfl covS_nil (fun _ => rfl) rfl ?_
        rintro u55 W54 hm53 -
        obtain ⟨up, uc, hup⟩ := row_form (Mem.src hm53 0 rfl rowT_reads)
        subst hup
        have HM56 := Lib.hid hm53
        clear hm53
        simp only [Act.put, List.setIfInBounds_toArray, List.set_cons_succ, List.set_cons_zero]
        refine wpS_this [3] rfl (by kernel_rfl) (by simp only [pickL, nthL, List.cons_append, List.nil_append]; rfl) ?_
        repeat (go_big_quiet_step (fail))
        refine wpQuiet_nil ?_
        refine wpS_nil ?_
        refine block_normal ?_
        refine then_normal ?_
        refine wp_region_N [(0, 1), (1, 1)] (by kernel_rfl) ?_
        refine wpS_this [0, 1] rfl (by kernel_rfl) (by simp only [pickL, nthL, List.cons_append, List.nil_append]; rfl) ?_
        repeat (go_big_quiet_step (fail))
        refine wpQuiet_nil ?_
        refine wpS_nil ?_
        refine then_normal ?_
        refine ⟨by kernel_rfl, ?_⟩
        refine ⟨b.v.length - (k + 1), by omega, k + 1, up, uc, rfl, rfl, by rw [hfl.out]; rfl, hk1, ?_⟩
        rw [hfl.out]
        exact (Mem.only (M := [_, _, _, _, _]) HM56.out [0, 1, 1, 1, 1] rfl)
      · have hfl : Hid (foldI (keptA a b) ((b.v.take (k + 1)).filter fun x => !hasV a.k x.1) = (foldI (keptA a b) ((b.v.take k).filter fun x => !hasV a.k x.1))) := Lib.hid (by rw [foldI_step _ _ hy.out, hq.out]; rfl)
        refine wp_region_N [(0, 1), (1, 1), (2, 1), (3, 1), (4, 3), (5, 1)] (by kernel_rfl) ?_
        refine wpS_this [0] rfl (by kernel_rfl) (by simp only [pickL, nthL, List.cons_append, List.nil_append]; rfl) ?_
        repeat (go_big_quiet_step (fail))
        refine wpQuiet_nil ?_
        refine wpS_loadA (i := 1) (d := some 30) (cells := vcC (a.k)) rfl (by rfl) rfl rfl (HM49.out.part 3 rfl (bgC_vc)) Try.underlying24 rfl (by kernel_rfl) rfl ?_
        simp only [Act.put, List.setIfInBounds_toArray, List.set_cons_succ, List.set_cons_zero]
        have Cb8 := Mem.cell HM49.out 0 rfl
        refine wpS_this [2, 3] rfl (by kernel_rfl) (by simp only [pickL, nthL, List.cons_append, List.nil_append]; rfl) ?_
        repeat (go_big_quiet_step (fail))
        refine wpQuiet_nil ?_
        clear Cb8
        refine wpS_does2 (i := 4) (d := some 33) (rem := [_, _, _, _, _, _]) (out := [_, _, _, _, _, _]) rfl (by rfl) rfl Try.call14 (chas_d a.k y.1.1 y.1.2) rfl rfl HM49.out [] rfl covS_nil rfl rfl ?_
        rintro W58 hm57 -
        rw [show hasV a.k (y.1.1, y.1.2) = _ from hq.out]
        have HM59 := Lib.hid hm57
        clear hm57
        simp only [Act.put, List.setIfInBounds_toArray, List.set_cons_succ, List.set_cons_zero]
        refine wpS_this [5] rfl (by kernel_rfl) (by simp only [pickL, nthL, List.cons_append, List.nil_append]; rfl) ?_
        repeat (go_big_quiet_step (fail))
        refine wpQuiet_nil ?_
        refine wpS_nil ?_
        refine then_normal ?_
        refine wp_cond_false rfl ?_
        refine wp_skip ?_
        refine block_normal ?_
        refine then_normal ?_
        refine wp_region_N [(0, 1), (1, 1)] (by kernel_rfl) ?_
        refine wpS_this [0, 1] rfl (by kernel_rfl) (by simp only [pickL, nthL, List.cons_append, List.nil_append]; rfl) ?_
        repeat (go_big_quiet_step (fail))
        refine wpQuiet_nil ?_
        refine wpS_nil ?_
        refine then_normal ?_
        refine ⟨by kernel_rfl, ?_⟩
        refine ⟨b.v.length - (k + 1), by omega, k + 1, pu, cu, rfl, rfl, by rw [hfl.out]; rfl, hk1, ?_⟩
        rw [hfl.out]
        exact (Mem.only (M := [_, _, _, _, _]) HM59.out [1, 1, 1, 1, 1] rfl)
    · have hge : Hid (b.v.length ≤ k) := Lib.hid (by have : ¬ (k : Int) < ((b.v.length : Nat) : Int) := (by simpa using h39); omega)
      clear h39
      refine wp_exit ?_
      refine then_exit (then_exit (block_exit ?_))
      refine then_normal ?_
      refine wp_seq ?_
      have hfj : (foldI (keptA a b) ((b.v.take k).filter fun x => !hasV a.k x.1)) = (joinB a b).v := by rw [List.take_of_length_le hge.out]; rfl
      rw [hfj] at HM38 ⊢
      have hmd : Hid ((if (joinB a b).v.length ≤ 32 then Value.tuple #[bgV (joinV a.k b.k) (.slice pu (joinB a b).v.length cu), .int .i64 0] else Value.tuple #[bgV noB.k (.slice none 0 0), .int .i64 5]) = Value.tuple #[bgV noB.k (.slice none 0 0), .int .i64 5]) := Lib.hid (if_neg hjl.out)
      clear hfj
      refine wp_region_N [(0, 1), (1, 1), (2, 1), (3, 1), (4, 3), (5, 1), (6, 3), (7, 1), (8, 1), (9, 3), (10, 1)] (by kernel_rfl) ?_
      refine wpS_this [0] rfl (by kernel_rfl) (by simp only [pickL, nthL, List.cons_append, List.nil_append]; rfl) ?_
      repeat (go_big_quiet_step (fail))
      refine wpQuiet_nil ?_
      refine wpS_loadA (i := 1) (d := some 40) (cells := vcC (a.k)) rfl (by rfl) rfl rfl (HM38.out.part 2 rfl (bgC_vc)) Try.underlying24 rfl (by kernel_rfl) rfl ?_
      simp only [Act.put, List.setIfInBounds_toArray, List.set_cons_succ, List.set_cons_zero]
      refine wpS_this [2] rfl (by kernel_rfl) (by simp only [pickL, nthL, List.cons_append, List.nil_append]; rfl) ?_
      repeat (go_big_quiet_step (fail))
      refine wpQuiet_nil ?_
      refine wpS_loadA (i := 3) (d := some 42) (cells := vcC (b.k)) rfl (by rfl) rfl rfl (HM38.out.part 1 rfl (bgC_vc)) Try.underlying24 rfl (by kernel_rfl) rfl ?_
      simp only [Act.put, List.setIfInBounds_toArray, List.set_cons_succ, List.set_cons_zero]
      refine wpS_does2 (i := 4) (d := some 43) (rem := [_, _, _, _, _]) (out := [_, _, _, _, _]) rfl (by rfl) rfl Try.call26 (cjoin_d a.k b.k) rfl rfl HM38.out [] rfl covS_nil rfl rfl ?_
      rintro W61 hm60 -
      have HM62 := Lib.hid hm60
      clear hm60
      simp only [Act.put, List.setIfInBounds_toArray, List.set_cons_succ, List.set_cons_zero]
      refine wpS_this [5] rfl (by kernel_rfl) (by simp only [pickL, nthL, List.cons_append, List.nil_append]; rfl) ?_
      repeat (go_big_quiet_step (fail))
      refine wpQuiet_nil ?_
      refine wpS_does2 (i := 6) (d := some 45) (rem := [_, _, _, _, _]) (out := [_, _, _, _, _]) rfl (by rfl) rfl Try.call25 (bmade_d (joinV a.k b.k) pu _ cu) rfl rfl HM62.out [] rfl covS_nil rfl rfl ?_
      rintro W64 hm63 -
      rw [hmd.out]
      have HM65 := Lib.hid hm63
      clear hm63
      simp only [Act.put, List.setIfInBounds_toArray, List.set_cons_succ, List.set_cons_zero]
      refine wpS_this [7, 8] rfl (by kernel_rfl) (by simp only [pickL, nthL, List.cons_append, List.nil_append]; rfl) ?_
      repeat (go_big_quiet_step (fail))
      refine wpQuiet_nil ?_
      refine wpS_storeA (i := 9) (L2 := [_, _, _, _]) (cs' := bgC (noB.k) (.slice none 0 0)) rfl (by rfl) rfl rfl rfl (by kernel_rfl) (bgC_one _ _ _) HM65.out 3 rfl rfl (by kernel_rfl) (by kernel_rfl) covS_nil rfl ?_
      rintro W67 hm66 -
      have HM68 := Lib.hid hm66
      clear hm66
      refine wpS_this [10] rfl (by kernel_rfl) (by simp only [pickL, nthL, List.cons_append, List.nil_append]; rfl) ?_
      repeat (go_big_quiet_step (fail))
      refine wpQuiet_nil ?_
      refine wpS_nil ?_
      refine then_normal ?_
      refine wp_ret ?_
      refine ret_cell_tmp rfl HM68.out 0 rfl rfl Try.underlying27 rfl (by kernel_rfl) rfl rfl ?_
      exact doesU_ret (post := fun u => [bagE u noB 5, R]) (Mem.toBagE (x := noB) (Mem.nilRow elemV (Mem.only (M := [_]) HM68.out [4] rfl))) rfl
  · replace hma := Lib.hid hma
    replace hmb := Lib.hid hmb
    replace hjl := Lib.hid hjl
    replace hxe := Lib.hid hxe
    clear hx
    refine wp_region_N [(0, 1), (1, 3), (2, 1), (3, 1), (4, 1), (5, 3), (6, 1), (7, 1)] (by kernel_rfl) ?_
    refine wpS_loadA (i := 0) (d := some 9) (cells := bgC (a.k) (.slice pa a.v.length ca)) rfl (by rfl) rfl rfl (HM12.out.part 2 rfl (bgC_all)) Try.underlying27 rfl (by kernel_rfl) rfl ?_
    simp only [Act.put, List.setIfInBounds_toArray, List.set_cons_succ, List.set_cons_zero]
    refine wpS_does1 (i := 1) (d := some 10) (rem := [_, _, _]) (out := [_, _, _, _]) rfl (by rfl) rfl Try.call12 (bmay_d R _ a ha la) rfl HM12.out [3] rfl covS_nil rfl rfl ?_
    rintro W70 hm69 -
    rw [hma.out]
    have HM71 := Lib.hid hm69
    clear hm69
    simp only [Act.put, List.setIfInBounds_toArray, List.set_cons_succ, List.set_cons_zero]
    refine wpS_this [2, 3] rfl (by kernel_rfl) (by simp only [pickL, nthL, List.cons_append, List.nil_append]; rfl) ?_
    repeat (go_big_quiet_step (fail))
    refine wpQuiet_nil ?_
    refine wpS_loadA (i := 4) (d := some 13) (cells := bgC (b.k) (.slice pb b.v.length cb)) rfl (by rfl) rfl rfl (HM71.out.part 2 rfl (bgC_all)) Try.underlying27 rfl (by kernel_rfl) rfl ?_
    simp only [Act.put, List.setIfInBounds_toArray, List.set_cons_succ, List.set_cons_zero]
    refine wpS_does1 (i := 5) (d := some 14) (rem := [_, _, _]) (out := [_, _, _, _]) rfl (by rfl) rfl Try.call12 (bmay_d R _ b hb lb) rfl HM71.out [0] rfl covS_nil rfl rfl ?_
    rintro W73 hm72 -
    rw [hmb.out]
    have HM74 := Lib.hid hm72
    clear hm72
    simp only [Act.put, List.setIfInBounds_toArray, List.set_cons_succ, List.set_cons_zero]
    refine wpS_this [6, 7] rfl (by kernel_rfl) (by simp only [pickL, nthL, List.cons_append, List.nil_append]; rfl) ?_
    repeat (go_big_quiet_step (fail))
    refine wpQuiet_nil ?_
    refine wpS_nil ?_
    refine then_normal ?_
    refine wp_cond_false rfl ?_
    refine wp_skip ?_
    refine then_normal ?_
    refine wp_seq ?_
    refine wp_region_N [(0, 1), (1, 1), (2, 0), (3, 3), (4, 1)] (by kernel_rfl) ?_
    refine wpS_this [0] rfl (by kernel_rfl) (by simp only [pickL, nthL, List.cons_append, List.nil_append]; rfl) ?_
    repeat (go_big_quiet_step (fail))
    refine wpQuiet_nil ?_
    refine wpS_load1 (i := 1) (d := some 19) (u := .slice pa a.v.length ca) rfl (by rfl) rfl rfl (HM74.out.part1 3 rfl bgC_sl) Try.underlying25 rfl rfl ?_
    simp only [Act.put, List.setIfInBounds_toArray, List.set_cons_succ, List.set_cons_zero]
    refine wpS_funcC1 (i := 2) (d := some 20) (v1 := .pointer (some ⟨b7, 0, none⟩)) rfl (by rfl) rfl rfl rfl ?_
    simp only [Act.put, List.setIfInBounds_toArray, List.set_cons_succ, List.set_cons_zero]
    refine wpS_doesU2 (i := 3) (d := some 21) (rem := [_, _]) rfl (by rfl) rfl Try.call21 (bthose_d R (boxT b7 (.cells (bgC b.k (.slice pb b.v.length cb)).toArray 27 (0, 0))) _ a.v (fun W H h => rowAt_src (ha W H h)) (by have := (mayB_iff.1 hma.out).len; omega) 22 (.pointer (some ⟨b7, 0, none⟩)) (fun x => heldL b.v x.1 || !hasV b.k x.1) Try.call22 (fun x _ => bjoin1_d R b7 _ b hb lb (mayB_iff.1 hmb.out).srt x)) rfl rfl HM74.out [2, 0] rfl covS_nil (fun _ => rfl) rfl ?_
    rintro u77 W76 hm75 -
    have hm75q := hm75
    have HM78 := Lib.hid hm75q
    clear hm75q
    simp only [Act.put, List.setIfInBounds_toArray, List.set_cons_succ, List.set_cons_zero]
    refine wpS_this [4] rfl (by kernel_rfl) (by simp only [pickL, nthL, List.cons_append, List.nil_append]; rfl) ?_
    repeat (go_big_quiet_step (fail))
    refine wpQuiet_nil ?_
    refine wpS_nil ?_
    refine then_normal ?_
    refine wp_seq ?_
    refine wp_seq ?_
    refine wp_region_N [(0, 1), (1, 1), (2, 1), (3, 1)] (by kernel_rfl) ?_
    refine wpS_this [0] rfl (by kernel_rfl) (by simp only [pickL, nthL, List.cons_append, List.nil_append]; rfl) ?_
    repeat (go_big_quiet_step (fail))
    refine wpQuiet_nil ?_
    refine wpS_load1 (i := 1) (d := some 23) (u := .slice pb b.v.length cb) rfl (by rfl) rfl rfl (HM78.out.part1 1 rfl bgC_sl) Try.underlying25 rfl rfl ?_
    simp only [Act.put, List.setIfInBounds_toArray, List.set_cons_succ, List.set_cons_zero]
    refine wpS_this [2, 3] rfl (by kernel_rfl) (by simp only [pickL, nthL, List.cons_append, List.nil_append]; rfl) ?_
    repeat (go_big_quiet_step (fail))
    refine wpQuiet_nil ?_
    refine wpS_nil ?_
    refine then_normal ?_
    refine wp_block ?_
    refine wp_loop_F [6, 8, 25, 26, 27, 28, 29, 30, 31, 32, 33, 34, 35, 36, 37, 38] (fun n vs W' => ∃ (k : Nat) (pu : Option Addr) (cu : Nat), n = b.v.length - k ∧ vs 25 = .int .i64 (k : Int) ∧ vs 6 = .slice pu (foldI (keptA a b) ((b.v.take k).filter fun x => !hasV a.k x.1)).length cu ∧ k ≤ b.v.length ∧ Mem [rowT elemV (.slice pu (foldI (keptA a b) ((b.v.take k).filter fun x => !hasV a.k x.1)).length cu) (foldI (keptA a b) ((b.v.take k).filter fun x => !hasV a.k x.1)), boxT b7 (.cells (bgC b.k (.slice pb b.v.length cb)).toArray 27 (0, 0)), boxT b3 (.cells (bgC a.k (.slice pa a.v.length ca)).toArray 27 (0, 0)), boxT b11 (.cells (bgC noB.k (.slice none 0 0)).toArray 27 (0, 0)), R] H w W') (n0 := b.v.length) ?_ ?_
    · obtain ⟨pu, cu, hu0⟩ := row_form (Mem.src HM78.out 0 rfl rowT_reads)
      subst hu0
      exact ⟨0, pu, cu, rfl, rfl, rfl, Nat.zero_le _, (Mem.only (M := [_, _, _, _, _]) HM78.out [0, 0, 2, 1, 0] rfl)⟩
    rintro n vs W' ⟨k, pu, cu, rfl, e25, e6, hk, hm⟩
    simp only [putAll, List.map_cons, List.map_nil, Act.put, List.setIfInBounds_toArray, List.set_cons_succ, List.set_cons_zero]
    rw [e25, e6]
    clear e25 e6
    have HM79 := Lib.hid hm
    clear hm
    refine wp_seq ?_
    refine wp_region_N [(0, 1)] (by kernel_rfl) ?_
    refine wpS_this [0] rfl (by kernel_rfl) (by simp only [pickL, nthL, List.cons_append, List.nil_append]; rfl) ?_
    repeat (go_big_quiet_step (fail))
    refine wpQuiet_nil ?_
    refine wpS_nil ?_
    refine then_normal ?_
    refine wp_seq ?_
    refine wp_cond_split rfl (fun h80 => ?_) (fun h80 => ?_)
    · have hk1 : k + 1 ≤ b.v.length := by have : (k : Int) < ((b.v.length : Nat) : Int) := (by simpa using h80); omega
      clear h80
      obtain ⟨y, hy'⟩ : ∃ y, b.v[k]? = some y := ⟨_, List.getElem?_eq_getElem (hk1)⟩
      have hy := Lib.hid hy'
      clear hy'
      refine wp_skip ?_
      refine then_normal ?_
      refine wp_seq ?_
      refine wp_block ?_
      refine wp_seq ?_
      refine wp_region_N [(0, 1), (1, 1), (2, 3), (3, 3)] (by kernel_rfl) ?_
      refine wpS_index (E := elemV) (i := 0) (d := some 27) rfl (by rfl) rfl rfl rfl (HM79.out.row 4 rfl (fun W H h => rowAt_src (hb W H h))) (hy.out) rfl ?_
      intro eb81 eo82 hc83
      simp only [Act.put, List.setIfInBounds_toArray, List.set_cons_succ, List.set_cons_zero]
      refine wpS_loadA (i := 1) (d := some 28) (cells := [.int .i64 y.1.1, .int .i64 y.1.2, .string y.2]) rfl (by rfl) rfl rfl hc83 Try.underlying41 rfl (by kernel_rfl) rfl ?_
      simp only [Act.put, List.setIfInBounds_toArray, List.set_cons_succ, List.set_cons_zero]
      refine wpS_alloc (i := 2) (dd := 8) (z := .agg #[.int .i64 0, .int .i64 0, .string ByteArray.empty]) (cs := #[.int .i64 0, .int .i64 0, .string ByteArray.empty]) rfl (by rfl) rfl (by kernel_rfl) rfl HM79.out covS_nil rfl ?_
      rintro b86 W85 hm84 -
      have HM87 := Lib.hid hm84
      clear hm84
      simp only [Act.put, List.setIfInBounds_toArray, List.set_cons_succ, List.set_cons_zero]
      refine wpS_storeA (i := 3) (L2 := [_, _, _, _, _]) (cs' := [.int .i64 y.1.1, .int .i64 y.1.2, .string y.2]) rfl (by rfl) rfl rfl rfl (by kernel_rfl) (by rfl) HM87.out 0 rfl rfl rfl rfl covS_nil rfl ?_
      rintro W89 hm88 -
      have HM90 := Lib.hid hm88
      clear hm88
      refine wpS_nil ?_
      refine then_normal ?_
      refine wp_seq ?_
      obtain ⟨q, hq'⟩ := bool_letter (hasV a.k y.1)
      have hq := Lib.hid hq'
      clear hq'
      cases q
      · have hfl : Hid (foldI (keptA a b) ((b.v.take (k + 1)).filter fun x => !hasV a.k x.1) = insB y (foldI (keptA a b) ((b.v.take k).filter fun x => !hasV a.k x.1))) := Lib.hid (by rw [foldI_step _ _ hy.out, hq.out]; rfl)
        refine wp_region_N [(0, 1), (1, 1), (2, 1), (3, 1), (4, 3), (5, 1)] (by kernel_rfl) ?_
        refine wpS_this [0] rfl (by kernel_rfl) (by simp only [pickL, nthL, List.cons_append, List.nil_append]; rfl) ?_
        repeat (go_big_quiet_step (fail))
        refine wpQuiet_nil ?_
        refine wpS_loadA (i := 1) (d := some 30) (cells := vcC (a.k)) rfl (by rfl) rfl rfl (HM90.out.part 3 rfl (bgC_vc)) Try.underlying24 rfl (by kernel_rfl) rfl ?_
        simp only [Act.put, List.setIfInBounds_toArray, List.set_cons_succ, List.set_cons_zero]
        have Cb8 := Mem.cell HM90.out 0 rfl
        refine wpS_this [2, 3] rfl (by kernel_rfl) (by simp only [pickL, nthL, List.cons_append, List.nil_append]; rfl) ?_
        repeat (go_big_quiet_step (fail))
        refine wpQuiet_nil ?_
        clear Cb8
        refine wpS_does2 (i := 4) (d := some 33) (rem := [_, _, _, _, _, _]) (out := [_, _, _, _, _, _]) rfl (by rfl) rfl Try.call14 (chas_d a.k y.1.1 y.1.2) rfl rfl HM90.out [] rfl covS_nil rfl rfl ?_
        rintro W92 hm91 -
        rw [show hasV a.k (y.1.1, y.1.2) = _ from hq.out]
        have HM93 := Lib.hid hm91
        clear hm91
        simp only [Act.put, List.setIfInBounds_toArray, List.set_cons_succ, List.set_cons_zero]
        refine wpS_this [5] rfl (by kernel_rfl) (by simp only [pickL, nthL, List.cons_append, List.nil_append]; rfl) ?_
        repeat (go_big_quiet_step (fail))
        refine wpQuiet_nil ?_
        refine wpS_nil ?_
        refine then_normal ?_
        refine wp_cond_true rfl ?_
        have hpl : Hid ((foldI (keptA a b) ((b.v.take k).filter fun x => !hasV a.k x.1)).length ≤ 64) := Lib.hid (part_len (mayB_iff.1 hma.out) (mayB_iff.1 hmb.out) k)
        have hcu : Hid ((foldI (keptA a b) ((b.v.take k).filter fun x => !hasV a.k x.1)).length ≤ cu) := Lib.hid (by obtain ⟨_, _, _, e1, e2, _⟩ := Mem.src HM93.out 1 rfl rowT_reads; simp only [Value.slice.injEq] at e1; omega)
        refine wp_region_N [(0, 1), (1, 1), (2, 3), (3, 1)] (by kernel_rfl) ?_
        have Cb8 := Mem.cell HM93.out 0 rfl
        refine wpS_this [0, 1] rfl (by kernel_rfl) (by simp only [pickL, nthL, List.cons_append, List.nil_append]; rfl) ?_
        repeat (go_big_quiet_step (fail))
        refine wpQuiet_nil ?_
        clear Cb8
        refine wpS_doesU2 (i := 2) (d := some 37) (rem := [_, _, _, _, _]) rfl (by rfl) rfl Try.call24 (bwith_d pu cu (foldI (keptA a b) ((b.v.take k).filter fun x => !hasV a.k x.1)) y (srt_part (mayB_iff.1 hma.out) (mayB_iff.1 hmb.out) k) (by have := hpl.out; omega) hcu.out) rfl rfl HM93.out [1] rfl covS_nil (fun _ => rfl) rfl ?_
        rintro u96 W95 hm94 -
        obtain ⟨up, uc, hup⟩ := row_form (Mem.src hm94 0 rfl rowT_reads)
        subst hup
        have HM97 := Lib.hid hm94
        clear hm94
        simp only [Act.put, List.setIfInBounds_toArray, List.set_cons_succ, List.set_cons_zero]
        refine wpS_this [3] rfl (by kernel_rfl) (by simp only [pickL, nthL, List.cons_append, List.nil_append]; rfl) ?_
        repeat (go_big_quiet_step (fail))
        refine wpQuiet_nil ?_
        refine wpS_nil ?_
        refine block_normal ?_
        refine then_normal ?_
        refine wp_region_N [(0, 1), (1, 1)] (by kernel_rfl) ?_
        refine wpS_this [0, 1] rfl (by kernel_rfl) (by simp only [pickL, nthL, List.cons_append, List.nil_append]; rfl) ?_
        repeat (go_big_quiet_step (fail))
        refine wpQuiet_nil ?_
        refine wpS_nil ?_
        refine then_normal ?_
        refine ⟨by kernel_rfl, ?_⟩
        refine ⟨b.v.length - (k + 1), by omega, k + 1, up, uc, rfl, rfl, by rw [hfl.out]; rfl, hk1, ?_⟩
        rw [hfl.out]
        exact (Mem.only (M := [_, _, _, _, _]) HM97.out [0, 1, 1, 1, 1] rfl)
      · have hfl : Hid (foldI (keptA a b) ((b.v.take (k + 1)).filter fun x => !hasV a.k x.1) = (foldI (keptA a b) ((b.v.take k).filter fun x => !hasV a.k x.1))) := Lib.hid (by rw [foldI_step _ _ hy.out, hq.out]; rfl)
        refine wp_region_N [(0, 1), (1, 1), (2, 1), (3, 1), (4, 3), (5, 1)] (by kernel_rfl) ?_
        refine wpS_this [0] rfl (by kernel_rfl) (by simp only [pickL, nthL, List.cons_append, List.nil_append]; rfl) ?_
        repeat (go_big_quiet_step (fail))
        refine wpQuiet_nil ?_
        refine wpS_loadA (i := 1) (d := some 30) (cells := vcC (a.k)) rfl (by rfl) rfl rfl (HM90.out.part 3 rfl (bgC_vc)) Try.underlying24 rfl (by kernel_rfl) rfl ?_
        simp only [Act.put, List.setIfInBounds_toArray, List.set_cons_succ, List.set_cons_zero]
        have Cb8 := Mem.cell HM90.out 0 rfl
        refine wpS_this [2, 3] rfl (by kernel_rfl) (by simp only [pickL, nthL, List.cons_append, List.nil_append]; rfl) ?_
        repeat (go_big_quiet_step (fail))
        refine wpQuiet_nil ?_
        clear Cb8
        refine wpS_does2 (i := 4) (d := some 33) (rem := [_, _, _, _, _, _]) (out := [_, _, _, _, _, _]) rfl (by rfl) rfl Try.call14 (chas_d a.k y.1.1 y.1.2) rfl rfl HM90.out [] rfl covS_nil rfl rfl ?_
        rintro W99 hm98 -
        rw [show hasV a.k (y.1.1, y.1.2) = _ from hq.out]
        have HM100 := Lib.hid hm98
        clear hm98
        simp only [Act.put, List.setIfInBounds_toArray, List.set_cons_succ, List.set_cons_zero]
        refine wpS_this [5] rfl (by kernel_rfl) (by simp only [pickL, nthL, List.cons_append, List.nil_append]; rfl) ?_
        repeat (go_big_quiet_step (fail))
        refine wpQuiet_nil ?_
        refine wpS_nil ?_
        refine then_normal ?_
        refine wp_cond_false rfl ?_
        refine wp_skip ?_
        refine block_normal ?_
        refine then_normal ?_
        refine wp_region_N [(0, 1), (1, 1)] (by kernel_rfl) ?_
        refine wpS_this [0, 1] rfl (by kernel_rfl) (by simp only [pickL, nthL, List.cons_append, List.nil_append]; rfl) ?_
        repeat (go_big_quiet_step (fail))
        refine wpQuiet_nil ?_
        refine wpS_nil ?_
        refine then_normal ?_
        refine ⟨by kernel_rfl, ?_⟩
        refine ⟨b.v.length - (k + 1), by omega, k + 1, pu, cu, rfl, rfl, by rw [hfl.out]; rfl, hk1, ?_⟩
        rw [hfl.out]
        exact (Mem.only (M := [_, _, _, _, _]) HM100.out [1, 1, 1, 1, 1] rfl)
    · have hge : Hid (b.v.length ≤ k) := Lib.hid (by have : ¬ (k : Int) < ((b.v.length : Nat) : Int) := (by simpa using h80); omega)
      clear h80
      refine wp_exit ?_
      refine then_exit (then_exit (block_exit ?_))
      refine then_normal ?_
      refine wp_seq ?_
      have hfj : (foldI (keptA a b) ((b.v.take k).filter fun x => !hasV a.k x.1)) = (joinB a b).v := by rw [List.take_of_length_le hge.out]; rfl
      rw [hfj] at HM79 ⊢
      have hmd : Hid ((if (joinB a b).v.length ≤ 32 then Value.tuple #[bgV (joinV a.k b.k) (.slice pu (joinB a b).v.length cu), .int .i64 0] else Value.tuple #[bgV noB.k (.slice none 0 0), .int .i64 5]) = Value.tuple #[bgV (joinB a b).k (.slice pu (joinB a b).v.length cu), .int .i64 0]) := Lib.hid (if_pos hjl.out)
      clear hfj
      refine wp_region_N [(0, 1), (1, 1), (2, 1), (3, 1), (4, 3), (5, 1), (6, 3), (7, 1), (8, 1), (9, 3), (10, 1)] (by kernel_rfl) ?_
      refine wpS_this [0] rfl (by kernel_rfl) (by simp only [pickL, nthL, List.cons_append, List.nil_append]; rfl) ?_
      repeat (go_big_quiet_step (fail))
      refine wpQuiet_nil ?_
      refine wpS_loadA (i := 1) (d := some 40) (cells := vcC (a.k)) rfl (by rfl) rfl rfl (HM79.out.part 2 rfl (bgC_vc)) Try.underlying24 rfl (by kernel_rfl) rfl ?_
      simp only [Act.put, List.setIfInBounds_toArray, List.set_cons_succ, List.set_cons_zero]
      refine wpS_this [2] rfl (by kernel_rfl) (by simp only [pickL, nthL, List.cons_append, List.nil_append]; rfl) ?_
      repeat (go_big_quiet_step (fail))
      refine wpQuiet_nil ?_
      refine wpS_loadA (i := 3) (d := some 42) (cells := vcC (b.k)) rfl (by rfl) rfl rfl (HM79.out.part 1 rfl (bgC_vc)) Try.underlying24 rfl (by kernel_rfl) rfl ?_
      simp only [Act.put, List.setIfInBounds_toArray, List.set_cons_succ, List.set_cons_zero]
      refine wpS_does2 (i := 4) (d := some 43) (rem := [_, _, _, _, _]) (out := [_, _, _, _, _]) rfl (by rfl) rfl Try.call26 (cjoin_d a.k b.k) rfl rfl HM79.out [] rfl covS_nil rfl rfl ?_
      rintro W102 hm101 -
      have HM103 := Lib.hid hm101
      clear hm101
      simp only [Act.put, List.setIfInBounds_toArray, List.set_cons_succ, List.set_cons_zero]
      refine wpS_this [5] rfl (by kernel_rfl) (by simp only [pickL, nthL, List.cons_append, List.nil_append]; rfl) ?_
      repeat (go_big_quiet_step (fail))
      refine wpQuiet_nil ?_
      refine wpS_does2 (i := 6) (d := some 45) (rem := [_, _, _, _, _]) (out := [_, _, _, _, _]) rfl (by rfl) rfl Try.call25 (bmade_d (joinV a.k b.k) pu _ cu) rfl rfl HM103.out [] rfl covS_nil rfl rfl ?_
      rintro W105 hm104 -
      rw [hmd.out]
      have HM106 := Lib.hid hm104
      clear hm104
      simp only [Act.put, List.setIfInBounds_toArray, List.set_cons_succ, List.set_cons_zero]
      refine wpS_this [7, 8] rfl (by kernel_rfl) (by simp only [pickL, nthL, List.cons_append, List.nil_append]; rfl) ?_
      repeat (go_big_quiet_step (fail))
      refine wpQuiet_nil ?_
      refine wpS_storeA (i := 9) (L2 := [_, _, _, _]) (cs' := bgC ((joinB a b).k) (.slice pu (joinB a b).v.length cu)) rfl (by rfl) rfl rfl rfl (by kernel_rfl) (bgC_one _ _ _) HM106.out 3 rfl rfl (by kernel_rfl) (by kernel_rfl) covS_nil rfl ?_
      rintro W108 hm107 -
      have HM109 := Lib.hid hm107
      clear hm107
      refine wpS_this [10] rfl (by kernel_rfl) (by simp only [pickL, nthL, List.cons_append, List.nil_append]; rfl) ?_
      repeat (go_big_quiet_step (fail))
      refine wpQuiet_nil ?_
      refine wpS_nil ?_
      refine then_normal ?_
      refine wp_ret ?_
      refine ret_cell_tmp rfl HM109.out 0 rfl rfl Try.underlying27 rfl (by kernel_rfl) rfl rfl ?_
      rw [hxe.out]
      exact doesU_ret (post := fun u => [bagE u (joinB a b) 0, R]) (Mem.toBagE (x := joinB a b) (Mem.only (M := [_, _]) HM109.out [1, 3] rfl)) rfl

end Go.Proofs.Ytneeidedadlioaa
