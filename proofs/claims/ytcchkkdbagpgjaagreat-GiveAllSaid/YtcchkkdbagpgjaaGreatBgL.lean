/- BgL: BgH, BgL. -/
import Derived.Test.YtcchkkdbagpgjaaGreatBgE
import Derived.Test.YtcchkkdbagpgjaaGreatBgN
import Derived.Test.YtcchkkdbagpgjaaGreatPA
namespace Go.Proofs.YtcchkkdbagpgjaaGreat
section
open Go Go.RowKit Go.BigFrame
set_option maxHeartbeats 4000000 in
set_option maxRecDepth 100000 in
theorem bjoin_d (R : At) (sa : Value) (a : Bg) (ha : Reads elemV R sa a.v) (la : a.v.length ≤ 4398046510976) (sb : Value) (b : Bg) (hb : Reads elemV R sb b.v) (lb : b.v.length ≤ 4398046510976) (x : Bg) (e : Int) (hx : joinBR a b = (x, e)) : DoesU Tryz.prog 73 #[bgV a.k sa, bgV b.k sb] [R] (fun u => [bagE u x e, R]) := by
 intro w H hp
 have HM0 := Lib.hid (mem_refl hp)
 clear hp
 obtain ⟨pa, ca, rfl⟩ := row_form (Mem.src HM0.out 0 rfl ha)
 obtain ⟨pb, cb, rfl⟩ := row_form (Mem.src HM0.out 0 rfl hb)
 go_enter Tryz.func73, Tryz.ntmps73
 refine wp_seq (wN [(0, 3), (1, 3), (2, 3), (3, 1)] ?_)
 refine wBh 0 HM0 fun b3 W2 HM4 => ?_
 refine wBh 1 HM4 fun b7 W6 HM8 => ?_
 refine wpS_alloc (i := 2) (dd := 4) (z := bgV noB.k (.slice none 0 0)) (cs := (bgC noB.k (.slice none 0 0)).toArray) rfl (by rfl) rfl (by kernel_rfl) rfl HM8.out covS_nil rfl ?_
 rintro b11 W10 hm9 -
 have HM12 := Lib.hid hm9
 clear hm9
 simp only [Act.put, List.setIfInBounds_toArray, List.set_cons_succ, List.set_cons_zero]
 refine wT [3] ?_
 refine wZ (wp_seq (wp_seq ?_))
 rcases join_ways4 hx with ⟨hma, rfl, rfl⟩ | ⟨hma, hmb, rfl, rfl⟩ | ⟨hma, hmb, hjl, rfl, rfl⟩ | ⟨hma, hmb, hjl, hxe, rfl⟩
 ·replace hma := Lib.hid hma
  clear hx
  refine wN [(0, 1), (1, 3), (2, 1), (3, 1), (4, 1), (5, 3), (6, 1), (7, 1)] ?_
  refine wL 0 (bgC (a.k) (.slice pa a.v.length ca)) (HM12.out.part 2 rfl (bgC_all)) Tryz.underlying41 ?_
  refine wpS_does1 (i := 1) (d := some 10) (rem := [_, _, _]) (out := [_, _, _, _]) rfl (by rfl) rfl Tryz.call72 (bmay_d R _ a ha la) rfl HM12.out [3] rfl covS_nil rfl rfl ?_
  rintro W14 hm13 -
  rw [hma.out]
  have HM15 := Lib.hid hm13
  clear hm13
  simp only [Act.put, List.setIfInBounds_toArray, List.set_cons_succ, List.set_cons_zero]
  refine wT [2, 3] ?_
  refine wK 4 ?_
  refine wK 5 ?_
  refine wT [6, 7] ?_
  refine wZ (wp_cond_true rfl (wp_seq (wN [(0, 1), (1, 3), (2, 1)] (wT [0] ?_))))
  refine wpS_storeA (i := 1) (L2 := [_, _, _]) (cs' := bgC (noB.k) (.slice none 0 0)) rfl (by rfl) rfl rfl rfl (by kernel_rfl) (bgC_one _ _ _) HM15.out 1 rfl rfl (by kernel_rfl) (by kernel_rfl) covS_nil rfl ?_
  rintro W17 hm16 -
  have HM18 := Lib.hid hm16
  clear hm16
  refine wT [2] ?_
  refine wZ (wp_ret (then_ret ?_))
  refine ret_cell_tmp rfl HM18.out 0 rfl rfl Tryz.underlying41 rfl (by kernel_rfl) rfl rfl ?_
  exact doesU_ret (post := fun u => [bagE u noB 1, R]) (Mem.toBagE (x := noB) (Mem.nilRow elemV (Mem.only (M := [_]) HM18.out [1] rfl))) rfl
 ·replace hma := Lib.hid hma
  replace hmb := Lib.hid hmb
  clear hx
  refine wN [(0, 1), (1, 3), (2, 1), (3, 1), (4, 1), (5, 3), (6, 1), (7, 1)] ?_
  refine wL 0 (bgC (a.k) (.slice pa a.v.length ca)) (HM12.out.part 2 rfl (bgC_all)) Tryz.underlying41 ?_
  refine wpS_does1 (i := 1) (d := some 10) (rem := [_, _, _]) (out := [_, _, _, _]) rfl (by rfl) rfl Tryz.call72 (bmay_d R _ a ha la) rfl HM12.out [3] rfl covS_nil rfl rfl ?_
  rintro W20 hm19 -
  rw [hma.out]
  have HM21 := Lib.hid hm19
  clear hm19
  simp only [Act.put, List.setIfInBounds_toArray, List.set_cons_succ, List.set_cons_zero]
  refine wT [2, 3] ?_
  refine wL 4 (bgC (b.k) (.slice pb b.v.length cb)) (HM21.out.part 2 rfl (bgC_all)) Tryz.underlying41 ?_
  refine wpS_does1 (i := 5) (d := some 14) (rem := [_, _, _]) (out := [_, _, _, _]) rfl (by rfl) rfl Tryz.call72 (bmay_d R _ b hb lb) rfl HM21.out [0] rfl covS_nil rfl rfl ?_
  rintro W23 hm22 -
  rw [hmb.out]
  have HM24 := Lib.hid hm22
  clear hm22
  simp only [Act.put, List.setIfInBounds_toArray, List.set_cons_succ, List.set_cons_zero]
  refine wT [6, 7] ?_
  refine wZ (wp_cond_true rfl (wp_seq (wN [(0, 1), (1, 3), (2, 1)] (wT [0] ?_))))
  refine wpS_storeA (i := 1) (L2 := [_, _, _]) (cs' := bgC (noB.k) (.slice none 0 0)) rfl (by rfl) rfl rfl rfl (by kernel_rfl) (bgC_one _ _ _) HM24.out 1 rfl rfl (by kernel_rfl) (by kernel_rfl) covS_nil rfl ?_
  rintro W26 hm25 -
  have HM27 := Lib.hid hm25
  clear hm25
  refine wT [2] ?_
  refine wZ (wp_ret (then_ret ?_))
  refine ret_cell_tmp rfl HM27.out 0 rfl rfl Tryz.underlying41 rfl (by kernel_rfl) rfl rfl ?_
  exact doesU_ret (post := fun u => [bagE u noB 1, R]) (Mem.toBagE (x := noB) (Mem.nilRow elemV (Mem.only (M := [_]) HM27.out [1] rfl))) rfl
 ·replace hma := Lib.hid hma
  replace hmb := Lib.hid hmb
  replace hjl := Lib.hid hjl
  clear hx
  refine wN [(0, 1), (1, 3), (2, 1), (3, 1), (4, 1), (5, 3), (6, 1), (7, 1)] ?_
  refine wL 0 (bgC (a.k) (.slice pa a.v.length ca)) (HM12.out.part 2 rfl (bgC_all)) Tryz.underlying41 ?_
  refine wpS_does1 (i := 1) (d := some 10) (rem := [_, _, _]) (out := [_, _, _, _]) rfl (by rfl) rfl Tryz.call72 (bmay_d R _ a ha la) rfl HM12.out [3] rfl covS_nil rfl rfl ?_
  rintro W29 hm28 -
  rw [hma.out]
  have HM30 := Lib.hid hm28
  clear hm28
  simp only [Act.put, List.setIfInBounds_toArray, List.set_cons_succ, List.set_cons_zero]
  refine wT [2, 3] ?_
  refine wL 4 (bgC (b.k) (.slice pb b.v.length cb)) (HM30.out.part 2 rfl (bgC_all)) Tryz.underlying41 ?_
  refine wpS_does1 (i := 5) (d := some 14) (rem := [_, _, _]) (out := [_, _, _, _]) rfl (by rfl) rfl Tryz.call72 (bmay_d R _ b hb lb) rfl HM30.out [0] rfl covS_nil rfl rfl ?_
  rintro W32 hm31 -
  rw [hmb.out]
  have HM33 := Lib.hid hm31
  clear hm31
  simp only [Act.put, List.setIfInBounds_toArray, List.set_cons_succ, List.set_cons_zero]
  refine wT [6, 7] ?_
  refine wZ (wp_cond_false rfl (wp_skip (then_normal (wp_seq (wN [(0, 1), (1, 1), (2, 0), (3, 3), (4, 1)] (wT [0] ?_))))))
  refine wM 1 (.slice pa a.v.length ca) (HM33.out.part1 3 rfl bgC_sl) Tryz.underlying39 ?_
  refine wpS_funcC1 (i := 2) (d := some 20) (v1 := .pointer (some ⟨b7, 0, none⟩)) rfl (by rfl) rfl rfl rfl ?_
  simp only [Act.put, List.setIfInBounds_toArray, List.set_cons_succ, List.set_cons_zero]
  refine wpS_doesU2 (i := 3) (d := some 21) (rem := [_, _]) rfl (by rfl) rfl Tryz.call102 (bthose_d R (boxT b7 (.cells (bgC b.k (.slice pb b.v.length cb)).toArray 41 (0, 0))) _ a.v (fun W H h => rowAt_src (ha W H h)) (by have := (mayB_iff.1 hma.out).len; omega) 119 (.pointer (some ⟨b7, 0, none⟩)) (fun x => heldL b.v x.1 || !hasV b.k x.1) Tryz.call119 (fun x _ => bjoin1_d R b7 _ b hb lb (mayB_iff.1 hmb.out).srt x)) rfl rfl HM33.out [2, 0] rfl covS_nil (fun _ => rfl) rfl ?_
  rintro u36 W35 hm34 -
  have hm34q := hm34
  have HM37 := Lib.hid hm34q
  clear hm34q
  simp only [Act.put, List.setIfInBounds_toArray, List.set_cons_succ, List.set_cons_zero]
  refine wT [4] ?_
  refine wZ (wp_seq (wp_seq (wN [(0, 1), (1, 1), (2, 1), (3, 1)] (wT [0] ?_))))
  refine wM 1 (.slice pb b.v.length cb) (HM37.out.part1 1 rfl bgC_sl) Tryz.underlying39 ?_
  refine wT [2, 3] ?_
  refine wZ (wp_block ?_)
  refine wp_loop_F [6, 8, 25, 26, 27, 28, 29, 30, 31, 32, 33, 34, 35, 36, 37, 38] (fun n vs W' => ∃ (k : Nat) (pu : Option Addr) (cu : Nat), n = b.v.length - k ∧ vs 25 = .int .i64 (k : Int) ∧ vs 6 = .slice pu (foldI (keptA a b) ((b.v.take k).filter fun x => !hasV a.k x.1)).length cu ∧ k ≤ b.v.length ∧ Mem [rowT elemV (.slice pu (foldI (keptA a b) ((b.v.take k).filter fun x => !hasV a.k x.1)).length cu) (foldI (keptA a b) ((b.v.take k).filter fun x => !hasV a.k x.1)), boxT b7 (.cells (bgC b.k (.slice pb b.v.length cb)).toArray 41 (0, 0)), boxT b3 (.cells (bgC a.k (.slice pa a.v.length ca)).toArray 41 (0, 0)), boxT b11 (.cells (bgC noB.k (.slice none 0 0)).toArray 41 (0, 0)), R] H w W') (n0 := b.v.length) ?_ ?_
  ·obtain ⟨pu, cu, hu0⟩ := row_form (Mem.src HM37.out 0 rfl rowT_reads)
   subst hu0
   exact ⟨0, pu, cu, rfl, rfl, rfl, Nat.zero_le _, (Mem.only (M := [_, _, _, _, _]) HM37.out [0, 0, 2, 1, 0] rfl)⟩
  rintro n vs W' ⟨k, pu, cu, rfl, e25, e6, hk, hm⟩
  simp only [putAll, List.map_cons, List.map_nil, Act.put, List.setIfInBounds_toArray, List.set_cons_succ, List.set_cons_zero]
  rw [e25, e6]
  clear e25 e6
  have HM38 := Lib.hid hm
  clear hm
  refine wp_seq (wQ ?_)
  refine wp_seq ?_
  refine wp_cond_split rfl (fun h39 => ?_) (fun h39 => ?_)
  ·have hk1 : k + 1 ≤ b.v.length := by have : (k : Int) < ((b.v.length : Nat) : Int) := (by simpa using h39); omega
   clear h39
   obtain ⟨y, hy'⟩ : ∃ y, b.v[k]? = some y := ⟨_, List.getElem?_eq_getElem (hk1)⟩
   have hy := Lib.hid hy'
   clear hy'
   refine wp_skip (then_normal (wp_seq (wp_block (wp_seq (wN [(0, 1), (1, 1), (2, 3), (3, 3)] ?_)))))
   refine wI elemV 0 (HM38.out.row 4 rfl (fun W H h => rowAt_src (hb W H h))) (hy.out) fun eb40 eo41 hc42 => ?_
   refine wL 1 [.int .i64 y.1.1, .int .i64 y.1.2, .string y.2] hc42 Tryz.underlying140 ?_
   refine wpS_alloc (i := 2) (dd := 8) (z := .agg #[.int .i64 0, .int .i64 0, .string ByteArray.empty]) (cs := #[.int .i64 0, .int .i64 0, .string ByteArray.empty]) rfl (by rfl) rfl (by kernel_rfl) rfl HM38.out covS_nil rfl ?_
   rintro b45 W44 hm43 -
   have HM46 := Lib.hid hm43
   clear hm43
   simp only [Act.put, List.setIfInBounds_toArray, List.set_cons_succ, List.set_cons_zero]
   refine wpS_storeA (i := 3) (L2 := [_, _, _, _, _]) (cs' := [.int .i64 y.1.1, .int .i64 y.1.2, .string y.2]) rfl (by rfl) rfl rfl rfl (by kernel_rfl) (by rfl) HM46.out 0 rfl rfl rfl rfl covS_nil rfl ?_
   rintro W48 hm47 -
   have HM49 := Lib.hid hm47
   clear hm47
   refine wZ (wp_seq ?_)
   obtain ⟨q, hq'⟩ := bool_letter (hasV a.k y.1)
   have hq := Lib.hid hq'
   clear hq'
   cases q
   ·have hfl : Hid (foldI (keptA a b) ((b.v.take (k + 1)).filter fun x => !hasV a.k x.1) = insB y (foldI (keptA a b) ((b.v.take k).filter fun x => !hasV a.k x.1))) := Lib.hid (by rw [foldI_step _ _ hy.out, hq.out]; rfl)
    refine wN [(0, 1), (1, 1), (2, 1), (3, 1), (4, 3), (5, 1)] (wT [0] ?_)
    refine wL 1 (vcC (a.k)) (HM49.out.part 3 rfl (bgC_vc)) Tryz.underlying38 ?_
    have Cb8 := Mem.cell HM49.out 0 rfl
    refine wT [2, 3] ?_
    clear Cb8
    refine wpS_does2 (i := 4) (d := some 33) (rem := [_, _, _, _, _, _]) (out := [_, _, _, _, _, _]) rfl (by rfl) rfl Tryz.call101 (chas_d a.k y.1.1 y.1.2) rfl rfl HM49.out [] rfl covS_nil rfl rfl ?_
    rintro W51 hm50 -
    rw [show hasV a.k (y.1.1, y.1.2) = _ from hq.out]
    have HM52 := Lib.hid hm50
    clear hm50
    simp only [Act.put, List.setIfInBounds_toArray, List.set_cons_succ, List.set_cons_zero]
    refine wT [5] ?_
    refine wZ (wp_cond_true rfl ?_)
    have hpl : Hid ((foldI (keptA a b) ((b.v.take k).filter fun x => !hasV a.k x.1)).length ≤ 64) := Lib.hid (part_len (mayB_iff.1 hma.out) (mayB_iff.1 hmb.out) k)
    have hcu : Hid ((foldI (keptA a b) ((b.v.take k).filter fun x => !hasV a.k x.1)).length ≤ cu) := Lib.hid (by obtain ⟨_, _, _, e1, e2, _⟩ := Mem.src HM52.out 1 rfl rowT_reads; simp only [Value.slice.injEq] at e1; omega)
    refine wN [(0, 1), (1, 1), (2, 3), (3, 1)] ?_
    have Cb8 := Mem.cell HM52.out 0 rfl
    refine wT [0, 1] ?_
    clear Cb8
    refine wpS_doesU2 (i := 2) (d := some 37) (rem := [_, _, _, _, _]) rfl (by rfl) rfl Tryz.call104 (bwith_d pu cu (foldI (keptA a b) ((b.v.take k).filter fun x => !hasV a.k x.1)) y (srt_part (mayB_iff.1 hma.out) (mayB_iff.1 hmb.out) k) (by have := hpl.out; omega) hcu.out) rfl rfl HM52.out [1] rfl covS_nil (fun _ => rfl) rfl ?_
    rintro u55 W54 hm53 -
    obtain ⟨up, uc, hup⟩ := row_form (Mem.src hm53 0 rfl rowT_reads)
    subst hup
    have HM56 := Lib.hid hm53
    clear hm53
    simp only [Act.put, List.setIfInBounds_toArray, List.set_cons_succ, List.set_cons_zero]
    refine wT [3] ?_
    refine wpS_nil (block_normal (then_normal (wQ ?_)))
    refine ⟨by kernel_rfl, ?_⟩
    refine ⟨b.v.length - (k + 1), by omega, k + 1, up, uc, rfl, rfl, by rw [hfl.out]; rfl, hk1, ?_⟩
    rw [hfl.out]
    exact (Mem.only (M := [_, _, _, _, _]) HM56.out [0, 1, 1, 1, 1] rfl)
   ·have hfl : Hid (foldI (keptA a b) ((b.v.take (k + 1)).filter fun x => !hasV a.k x.1) = (foldI (keptA a b) ((b.v.take k).filter fun x => !hasV a.k x.1))) := Lib.hid (by rw [foldI_step _ _ hy.out, hq.out]; rfl)
    refine wN [(0, 1), (1, 1), (2, 1), (3, 1), (4, 3), (5, 1)] (wT [0] ?_)
    refine wL 1 (vcC (a.k)) (HM49.out.part 3 rfl (bgC_vc)) Tryz.underlying38 ?_
    have Cb8 := Mem.cell HM49.out 0 rfl
    refine wT [2, 3] ?_
    clear Cb8
    refine wpS_does2 (i := 4) (d := some 33) (rem := [_, _, _, _, _, _]) (out := [_, _, _, _, _, _]) rfl (by rfl) rfl Tryz.call101 (chas_d a.k y.1.1 y.1.2) rfl rfl HM49.out [] rfl covS_nil rfl rfl ?_
    rintro W58 hm57 -
    rw [show hasV a.k (y.1.1, y.1.2) = _ from hq.out]
    have HM59 := Lib.hid hm57
    clear hm57
    simp only [Act.put, List.setIfInBounds_toArray, List.set_cons_succ, List.set_cons_zero]
    refine wT [5] ?_
    refine wZ (wp_cond_false rfl (wp_skip (block_normal (then_normal (wQ ?_)))))
    refine ⟨by kernel_rfl, ?_⟩
    refine ⟨b.v.length - (k + 1), by omega, k + 1, pu, cu, rfl, rfl, by rw [hfl.out]; rfl, hk1, ?_⟩
    rw [hfl.out]
    exact (Mem.only (M := [_, _, _, _, _]) HM59.out [1, 1, 1, 1, 1] rfl)
  ·have hge : Hid (b.v.length ≤ k) := Lib.hid (by have : ¬ (k : Int) < ((b.v.length : Nat) : Int) := (by simpa using h39); omega)
   clear h39
   refine wp_exit ?_
   refine then_exit (then_exit (block_exit ?_))
   refine then_normal (wp_seq ?_)
   have hfj : (foldI (keptA a b) ((b.v.take k).filter fun x => !hasV a.k x.1)) = (joinB a b).v := by rw [List.take_of_length_le hge.out]; rfl
   rw [hfj] at HM38 ⊢
   have hmd : Hid ((if (joinB a b).v.length ≤ 32 then Value.tuple #[bgV (joinV a.k b.k) (.slice pu (joinB a b).v.length cu), .int .i64 0] else Value.tuple #[bgV noB.k (.slice none 0 0), .int .i64 5]) = Value.tuple #[bgV noB.k (.slice none 0 0), .int .i64 5]) := Lib.hid (if_neg hjl.out)
   clear hfj
   refine wN [(0, 1), (1, 1), (2, 1), (3, 1), (4, 3), (5, 1), (6, 3), (7, 1), (8, 1), (9, 3), (10, 1)] (wT [0] ?_)
   refine wL 1 (vcC (a.k)) (HM38.out.part 2 rfl (bgC_vc)) Tryz.underlying38 ?_
   refine wT [2] ?_
   refine wL 3 (vcC (b.k)) (HM38.out.part 1 rfl (bgC_vc)) Tryz.underlying38 ?_
   refine wpS_does2 (i := 4) (d := some 43) (rem := [_, _, _, _, _]) (out := [_, _, _, _, _]) rfl (by rfl) rfl Tryz.call107 (cjoin_d a.k b.k) rfl rfl HM38.out [] rfl covS_nil rfl rfl ?_
   rintro W61 hm60 -
   have HM62 := Lib.hid hm60
   clear hm60
   simp only [Act.put, List.setIfInBounds_toArray, List.set_cons_succ, List.set_cons_zero]
   refine wT [5] ?_
   refine wpS_does2 (i := 6) (d := some 45) (rem := [_, _, _, _, _]) (out := [_, _, _, _, _]) rfl (by rfl) rfl Tryz.call105 (bmade_d (joinV a.k b.k) pu _ cu) rfl rfl HM62.out [] rfl covS_nil rfl rfl ?_
   rintro W64 hm63 -
   rw [hmd.out]
   have HM65 := Lib.hid hm63
   clear hm63
   simp only [Act.put, List.setIfInBounds_toArray, List.set_cons_succ, List.set_cons_zero]
   refine wT [7, 8] ?_
   refine wpS_storeA (i := 9) (L2 := [_, _, _, _]) (cs' := bgC (noB.k) (.slice none 0 0)) rfl (by rfl) rfl rfl rfl (by kernel_rfl) (bgC_one _ _ _) HM65.out 3 rfl rfl (by kernel_rfl) (by kernel_rfl) covS_nil rfl ?_
   rintro W67 hm66 -
   have HM68 := Lib.hid hm66
   clear hm66
   refine wT [10] ?_
   refine wZ (wp_ret ?_)
   refine ret_cell_tmp rfl HM68.out 0 rfl rfl Tryz.underlying41 rfl (by kernel_rfl) rfl rfl ?_
   exact doesU_ret (post := fun u => [bagE u noB 5, R]) (Mem.toBagE (x := noB) (Mem.nilRow elemV (Mem.only (M := [_]) HM68.out [4] rfl))) rfl
 ·replace hma := Lib.hid hma
  replace hmb := Lib.hid hmb
  replace hjl := Lib.hid hjl
  replace hxe := Lib.hid hxe
  clear hx
  refine wN [(0, 1), (1, 3), (2, 1), (3, 1), (4, 1), (5, 3), (6, 1), (7, 1)] ?_
  refine wL 0 (bgC (a.k) (.slice pa a.v.length ca)) (HM12.out.part 2 rfl (bgC_all)) Tryz.underlying41 ?_
  refine wpS_does1 (i := 1) (d := some 10) (rem := [_, _, _]) (out := [_, _, _, _]) rfl (by rfl) rfl Tryz.call72 (bmay_d R _ a ha la) rfl HM12.out [3] rfl covS_nil rfl rfl ?_
  rintro W70 hm69 -
  rw [hma.out]
  have HM71 := Lib.hid hm69
  clear hm69
  simp only [Act.put, List.setIfInBounds_toArray, List.set_cons_succ, List.set_cons_zero]
  refine wT [2, 3] ?_
  refine wL 4 (bgC (b.k) (.slice pb b.v.length cb)) (HM71.out.part 2 rfl (bgC_all)) Tryz.underlying41 ?_
  refine wpS_does1 (i := 5) (d := some 14) (rem := [_, _, _]) (out := [_, _, _, _]) rfl (by rfl) rfl Tryz.call72 (bmay_d R _ b hb lb) rfl HM71.out [0] rfl covS_nil rfl rfl ?_
  rintro W73 hm72 -
  rw [hmb.out]
  have HM74 := Lib.hid hm72
  clear hm72
  simp only [Act.put, List.setIfInBounds_toArray, List.set_cons_succ, List.set_cons_zero]
  refine wT [6, 7] ?_
  refine wZ (wp_cond_false rfl (wp_skip (then_normal (wp_seq (wN [(0, 1), (1, 1), (2, 0), (3, 3), (4, 1)] (wT [0] ?_))))))
  refine wM 1 (.slice pa a.v.length ca) (HM74.out.part1 3 rfl bgC_sl) Tryz.underlying39 ?_
  refine wpS_funcC1 (i := 2) (d := some 20) (v1 := .pointer (some ⟨b7, 0, none⟩)) rfl (by rfl) rfl rfl rfl ?_
  simp only [Act.put, List.setIfInBounds_toArray, List.set_cons_succ, List.set_cons_zero]
  refine wpS_doesU2 (i := 3) (d := some 21) (rem := [_, _]) rfl (by rfl) rfl Tryz.call102 (bthose_d R (boxT b7 (.cells (bgC b.k (.slice pb b.v.length cb)).toArray 41 (0, 0))) _ a.v (fun W H h => rowAt_src (ha W H h)) (by have := (mayB_iff.1 hma.out).len; omega) 119 (.pointer (some ⟨b7, 0, none⟩)) (fun x => heldL b.v x.1 || !hasV b.k x.1) Tryz.call119 (fun x _ => bjoin1_d R b7 _ b hb lb (mayB_iff.1 hmb.out).srt x)) rfl rfl HM74.out [2, 0] rfl covS_nil (fun _ => rfl) rfl ?_
  rintro u77 W76 hm75 -
  have hm75q := hm75
  have HM78 := Lib.hid hm75q
  clear hm75q
  simp only [Act.put, List.setIfInBounds_toArray, List.set_cons_succ, List.set_cons_zero]
  refine wT [4] ?_
  refine wZ (wp_seq (wp_seq (wN [(0, 1), (1, 1), (2, 1), (3, 1)] (wT [0] ?_))))
  refine wM 1 (.slice pb b.v.length cb) (HM78.out.part1 1 rfl bgC_sl) Tryz.underlying39 ?_
  refine wT [2, 3] ?_
  refine wZ (wp_block ?_)
  refine wp_loop_F [6, 8, 25, 26, 27, 28, 29, 30, 31, 32, 33, 34, 35, 36, 37, 38] (fun n vs W' => ∃ (k : Nat) (pu : Option Addr) (cu : Nat), n = b.v.length - k ∧ vs 25 = .int .i64 (k : Int) ∧ vs 6 = .slice pu (foldI (keptA a b) ((b.v.take k).filter fun x => !hasV a.k x.1)).length cu ∧ k ≤ b.v.length ∧ Mem [rowT elemV (.slice pu (foldI (keptA a b) ((b.v.take k).filter fun x => !hasV a.k x.1)).length cu) (foldI (keptA a b) ((b.v.take k).filter fun x => !hasV a.k x.1)), boxT b7 (.cells (bgC b.k (.slice pb b.v.length cb)).toArray 41 (0, 0)), boxT b3 (.cells (bgC a.k (.slice pa a.v.length ca)).toArray 41 (0, 0)), boxT b11 (.cells (bgC noB.k (.slice none 0 0)).toArray 41 (0, 0)), R] H w W') (n0 := b.v.length) ?_ ?_
  ·obtain ⟨pu, cu, hu0⟩ := row_form (Mem.src HM78.out 0 rfl rowT_reads)
   subst hu0
   exact ⟨0, pu, cu, rfl, rfl, rfl, Nat.zero_le _, (Mem.only (M := [_, _, _, _, _]) HM78.out [0, 0, 2, 1, 0] rfl)⟩
  rintro n vs W' ⟨k, pu, cu, rfl, e25, e6, hk, hm⟩
  simp only [putAll, List.map_cons, List.map_nil, Act.put, List.setIfInBounds_toArray, List.set_cons_succ, List.set_cons_zero]
  rw [e25, e6]
  clear e25 e6
  have HM79 := Lib.hid hm
  clear hm
  refine wp_seq (wQ ?_)
  refine wp_seq ?_
  refine wp_cond_split rfl (fun h80 => ?_) (fun h80 => ?_)
  ·have hk1 : k + 1 ≤ b.v.length := by have : (k : Int) < ((b.v.length : Nat) : Int) := (by simpa using h80); omega
   clear h80
   obtain ⟨y, hy'⟩ : ∃ y, b.v[k]? = some y := ⟨_, List.getElem?_eq_getElem (hk1)⟩
   have hy := Lib.hid hy'
   clear hy'
   refine wp_skip (then_normal (wp_seq (wp_block (wp_seq (wN [(0, 1), (1, 1), (2, 3), (3, 3)] ?_)))))
   refine wI elemV 0 (HM79.out.row 4 rfl (fun W H h => rowAt_src (hb W H h))) (hy.out) fun eb81 eo82 hc83 => ?_
   refine wL 1 [.int .i64 y.1.1, .int .i64 y.1.2, .string y.2] hc83 Tryz.underlying140 ?_
   refine wpS_alloc (i := 2) (dd := 8) (z := .agg #[.int .i64 0, .int .i64 0, .string ByteArray.empty]) (cs := #[.int .i64 0, .int .i64 0, .string ByteArray.empty]) rfl (by rfl) rfl (by kernel_rfl) rfl HM79.out covS_nil rfl ?_
   rintro b86 W85 hm84 -
   have HM87 := Lib.hid hm84
   clear hm84
   simp only [Act.put, List.setIfInBounds_toArray, List.set_cons_succ, List.set_cons_zero]
   refine wpS_storeA (i := 3) (L2 := [_, _, _, _, _]) (cs' := [.int .i64 y.1.1, .int .i64 y.1.2, .string y.2]) rfl (by rfl) rfl rfl rfl (by kernel_rfl) (by rfl) HM87.out 0 rfl rfl rfl rfl covS_nil rfl ?_
   rintro W89 hm88 -
   have HM90 := Lib.hid hm88
   clear hm88
   refine wZ (wp_seq ?_)
   obtain ⟨q, hq'⟩ := bool_letter (hasV a.k y.1)
   have hq := Lib.hid hq'
   clear hq'
   cases q
   ·have hfl : Hid (foldI (keptA a b) ((b.v.take (k + 1)).filter fun x => !hasV a.k x.1) = insB y (foldI (keptA a b) ((b.v.take k).filter fun x => !hasV a.k x.1))) := Lib.hid (by rw [foldI_step _ _ hy.out, hq.out]; rfl)
    refine wN [(0, 1), (1, 1), (2, 1), (3, 1), (4, 3), (5, 1)] (wT [0] ?_)
    refine wL 1 (vcC (a.k)) (HM90.out.part 3 rfl (bgC_vc)) Tryz.underlying38 ?_
    have Cb8 := Mem.cell HM90.out 0 rfl
    refine wT [2, 3] ?_
    clear Cb8
    refine wpS_does2 (i := 4) (d := some 33) (rem := [_, _, _, _, _, _]) (out := [_, _, _, _, _, _]) rfl (by rfl) rfl Tryz.call101 (chas_d a.k y.1.1 y.1.2) rfl rfl HM90.out [] rfl covS_nil rfl rfl ?_
    rintro W92 hm91 -
    rw [show hasV a.k (y.1.1, y.1.2) = _ from hq.out]
    have HM93 := Lib.hid hm91
    clear hm91
    simp only [Act.put, List.setIfInBounds_toArray, List.set_cons_succ, List.set_cons_zero]
    refine wT [5] ?_
    refine wZ (wp_cond_true rfl ?_)
    have hpl : Hid ((foldI (keptA a b) ((b.v.take k).filter fun x => !hasV a.k x.1)).length ≤ 64) := Lib.hid (part_len (mayB_iff.1 hma.out) (mayB_iff.1 hmb.out) k)
    have hcu : Hid ((foldI (keptA a b) ((b.v.take k).filter fun x => !hasV a.k x.1)).length ≤ cu) := Lib.hid (by obtain ⟨_, _, _, e1, e2, _⟩ := Mem.src HM93.out 1 rfl rowT_reads; simp only [Value.slice.injEq] at e1; omega)
    refine wN [(0, 1), (1, 1), (2, 3), (3, 1)] ?_
    have Cb8 := Mem.cell HM93.out 0 rfl
    refine wT [0, 1] ?_
    clear Cb8
    refine wpS_doesU2 (i := 2) (d := some 37) (rem := [_, _, _, _, _]) rfl (by rfl) rfl Tryz.call104 (bwith_d pu cu (foldI (keptA a b) ((b.v.take k).filter fun x => !hasV a.k x.1)) y (srt_part (mayB_iff.1 hma.out) (mayB_iff.1 hmb.out) k) (by have := hpl.out; omega) hcu.out) rfl rfl HM93.out [1] rfl covS_nil (fun _ => rfl) rfl ?_
    rintro u96 W95 hm94 -
    obtain ⟨up, uc, hup⟩ := row_form (Mem.src hm94 0 rfl rowT_reads)
    subst hup
    have HM97 := Lib.hid hm94
    clear hm94
    simp only [Act.put, List.setIfInBounds_toArray, List.set_cons_succ, List.set_cons_zero]
    refine wT [3] ?_
    refine wpS_nil (block_normal (then_normal (wQ ?_)))
    refine ⟨by kernel_rfl, ?_⟩
    refine ⟨b.v.length - (k + 1), by omega, k + 1, up, uc, rfl, rfl, by rw [hfl.out]; rfl, hk1, ?_⟩
    rw [hfl.out]
    exact (Mem.only (M := [_, _, _, _, _]) HM97.out [0, 1, 1, 1, 1] rfl)
   ·have hfl : Hid (foldI (keptA a b) ((b.v.take (k + 1)).filter fun x => !hasV a.k x.1) = (foldI (keptA a b) ((b.v.take k).filter fun x => !hasV a.k x.1))) := Lib.hid (by rw [foldI_step _ _ hy.out, hq.out]; rfl)
    refine wN [(0, 1), (1, 1), (2, 1), (3, 1), (4, 3), (5, 1)] (wT [0] ?_)
    refine wL 1 (vcC (a.k)) (HM90.out.part 3 rfl (bgC_vc)) Tryz.underlying38 ?_
    have Cb8 := Mem.cell HM90.out 0 rfl
    refine wT [2, 3] ?_
    clear Cb8
    refine wpS_does2 (i := 4) (d := some 33) (rem := [_, _, _, _, _, _]) (out := [_, _, _, _, _, _]) rfl (by rfl) rfl Tryz.call101 (chas_d a.k y.1.1 y.1.2) rfl rfl HM90.out [] rfl covS_nil rfl rfl ?_
    rintro W99 hm98 -
    rw [show hasV a.k (y.1.1, y.1.2) = _ from hq.out]
    have HM100 := Lib.hid hm98
    clear hm98
    simp only [Act.put, List.setIfInBounds_toArray, List.set_cons_succ, List.set_cons_zero]
    refine wT [5] ?_
    refine wZ (wp_cond_false rfl (wp_skip (block_normal (then_normal (wQ ?_)))))
    refine ⟨by kernel_rfl, ?_⟩
    refine ⟨b.v.length - (k + 1), by omega, k + 1, pu, cu, rfl, rfl, by rw [hfl.out]; rfl, hk1, ?_⟩
    rw [hfl.out]
    exact (Mem.only (M := [_, _, _, _, _]) HM100.out [1, 1, 1, 1, 1] rfl)
  ·have hge : Hid (b.v.length ≤ k) := Lib.hid (by have : ¬ (k : Int) < ((b.v.length : Nat) : Int) := (by simpa using h80); omega)
   clear h80
   refine wp_exit ?_
   refine then_exit (then_exit (block_exit ?_))
   refine then_normal (wp_seq ?_)
   have hfj : (foldI (keptA a b) ((b.v.take k).filter fun x => !hasV a.k x.1)) = (joinB a b).v := by rw [List.take_of_length_le hge.out]; rfl
   rw [hfj] at HM79 ⊢
   have hmd : Hid ((if (joinB a b).v.length ≤ 32 then Value.tuple #[bgV (joinV a.k b.k) (.slice pu (joinB a b).v.length cu), .int .i64 0] else Value.tuple #[bgV noB.k (.slice none 0 0), .int .i64 5]) = Value.tuple #[bgV (joinB a b).k (.slice pu (joinB a b).v.length cu), .int .i64 0]) := Lib.hid (if_pos hjl.out)
   clear hfj
   refine wN [(0, 1), (1, 1), (2, 1), (3, 1), (4, 3), (5, 1), (6, 3), (7, 1), (8, 1), (9, 3), (10, 1)] (wT [0] ?_)
   refine wL 1 (vcC (a.k)) (HM79.out.part 2 rfl (bgC_vc)) Tryz.underlying38 ?_
   refine wT [2] ?_
   refine wL 3 (vcC (b.k)) (HM79.out.part 1 rfl (bgC_vc)) Tryz.underlying38 ?_
   refine wpS_does2 (i := 4) (d := some 43) (rem := [_, _, _, _, _]) (out := [_, _, _, _, _]) rfl (by rfl) rfl Tryz.call107 (cjoin_d a.k b.k) rfl rfl HM79.out [] rfl covS_nil rfl rfl ?_
   rintro W102 hm101 -
   have HM103 := Lib.hid hm101
   clear hm101
   simp only [Act.put, List.setIfInBounds_toArray, List.set_cons_succ, List.set_cons_zero]
   refine wT [5] ?_
   refine wpS_does2 (i := 6) (d := some 45) (rem := [_, _, _, _, _]) (out := [_, _, _, _, _]) rfl (by rfl) rfl Tryz.call105 (bmade_d (joinV a.k b.k) pu _ cu) rfl rfl HM103.out [] rfl covS_nil rfl rfl ?_
   rintro W105 hm104 -
   rw [hmd.out]
   have HM106 := Lib.hid hm104
   clear hm104
   simp only [Act.put, List.setIfInBounds_toArray, List.set_cons_succ, List.set_cons_zero]
   refine wT [7, 8] ?_
   refine wpS_storeA (i := 9) (L2 := [_, _, _, _]) (cs' := bgC ((joinB a b).k) (.slice pu (joinB a b).v.length cu)) rfl (by rfl) rfl rfl rfl (by kernel_rfl) (bgC_one _ _ _) HM106.out 3 rfl rfl (by kernel_rfl) (by kernel_rfl) covS_nil rfl ?_
   rintro W108 hm107 -
   have HM109 := Lib.hid hm107
   clear hm107
   refine wT [10] ?_
   refine wZ (wp_ret ?_)
   refine ret_cell_tmp rfl HM109.out 0 rfl rfl Tryz.underlying41 rfl (by kernel_rfl) rfl rfl ?_
   rw [hxe.out]
   exact doesU_ret (post := fun u => [bagE u (joinB a b) 0, R]) (Mem.toBagE (x := joinB a b) (Mem.only (M := [_, _]) HM109.out [1, 3] rfl)) rfl
end
section
open Go Go.RowKit Go.BigFrame
theorem joinBR_len0 {a b x : Bg} {e : Int} (h : joinBR a b = (x, e)) : x.v.length ≤ 32 := by
 rcases join_ways4 h with ⟨_, rfl, _⟩ | ⟨_, _, rfl, _⟩ | ⟨_, _, _, rfl, _⟩ | ⟨_, _, hl, rfl, _⟩
 ·exact Nat.zero_le _
 ·exact Nat.zero_le _
 ·exact Nat.zero_le _
 ·exact hl
set_option maxHeartbeats 4000000 in
set_option maxRecDepth 100000 in
theorem bbelow_d (R : At) (sa : Value) (a : Bg) (ha : Reads elemV R sa a.v) (la : a.v.length ≤ 4398046510976) (sb : Value) (b : Bg) (hb : Reads elemV R sb b.v) (lb : b.v.length ≤ 4398046510976) : Does Tryz.prog 34 #[bgV a.k sa, bgV b.k sb] [R] (.bool (belowB a b)) [R] := by
 intro w H hp
 have HM0 := Lib.hid (mem_refl hp)
 clear hp
 obtain ⟨pa, ca, rfl⟩ := row_form (Mem.src HM0.out 0 rfl ha)
 obtain ⟨pb, cb, rfl⟩ := row_form (Mem.src HM0.out 0 rfl hb)
 go_enter Tryz.func34, Tryz.ntmps34
 refine wp_seq (wN [(0, 3), (1, 3), (2, 1)] ?_)
 refine wBh 0 HM0 fun b3 W2 HM4 => ?_
 refine wBh 1 HM4 fun b7 W6 HM8 => ?_
 refine wT [2] ?_
 refine wZ (wp_seq ?_)
 obtain ⟨z, hz'⟩ := bool_letter (belowB a b)
 rw [hz']
 obtain ⟨x, e, hx'⟩ : ∃ x e, joinBR a b = (x, e) := ⟨_, _, rfl⟩
 have lx : Hid (x.v.length ≤ 4398046510976) := Lib.hid (Nat.le_trans (joinBR_len0 hx') (by decide))
 have hz := Lib.hid hz'
 clear hz'
 have hx := Lib.hid hx'
 clear hx'
 refine wN [(0, 1), (1, 1), (2, 3), (3, 1), (4, 1), (5, 1), (6, 3), (7, 3), (8, 1)] ?_
 refine wL 0 (bgC (a.k) (.slice pa a.v.length ca)) (HM8.out.part 1 rfl (bgC_all)) Tryz.underlying41 ?_
 refine wL 1 (bgC (b.k) (.slice pb b.v.length cb)) (HM8.out.part 0 rfl (bgC_all)) Tryz.underlying41 ?_
 refine wpS_doesU2 (i := 2) (d := some 10) (rem := [_, _]) rfl (by rfl) rfl Tryz.call73 (bjoin_d R _ a ha la _ b hb lb x e hx.out) rfl rfl HM8.out [2] rfl covS_nil (fun _ => rfl) rfl ?_
 rintro u11 W10 hm9 -
 obtain ⟨px, cx, rfl, hm9q⟩ := Mem.bagE rfl hm9
 clear hm9
 have HM12 := Lib.hid hm9q
 clear hm9q
 simp only [Act.put, List.setIfInBounds_toArray, List.set_cons_succ, List.set_cons_zero]
 refine wT [3, 4, 5] ?_
 refine wpS_alloc (i := 6) (dd := 5) (z := bgV noB.k (.slice none 0 0)) (cs := (bgC noB.k (.slice none 0 0)).toArray) rfl (by rfl) rfl (by kernel_rfl) rfl HM12.out covS_nil rfl ?_
 rintro b15 W14 hm13 -
 have HM16 := Lib.hid hm13
 clear hm13
 simp only [Act.put, List.setIfInBounds_toArray, List.set_cons_succ, List.set_cons_zero]
 refine wpS_storeA (i := 7) (L2 := [_, _, _, _]) (cs' := bgC (x.k) (.slice px x.v.length cx)) rfl (by rfl) rfl rfl rfl (by kernel_rfl) (bgC_one _ _ _) HM16.out 0 rfl rfl (by kernel_rfl) (by kernel_rfl) covS_nil rfl ?_
 rintro W18 hm17 -
 have HM19 := Lib.hid hm17
 clear hm17
 refine wT [8] ?_
 refine wZ (wp_seq ?_)
 by_cases h0 : e = 0
 ·have g1 : (e == 0) = true := beq_iff_eq.2 h0
  have hc : Hid (z = sameB x b) := Lib.hid (by rw [← hz.out]; unfold belowB; rw [hx.out, decide_eq_true h0]; rfl)
  replace h0 := Lib.hid h0
  refine wN [(0, 1), (1, 1), (2, 1), (3, 1), (4, 1), (5, 3), (6, 1), (7, 1)] (wT [0, 1, 2] ?_)
  refine wL 3 (bgC (x.k) (.slice px x.v.length cx)) (HM19.out.part 0 rfl (bgC_all)) Tryz.underlying41 ?_
  refine wL 4 (bgC (b.k) (.slice pb b.v.length cb)) (HM19.out.part 3 rfl (bgC_all)) Tryz.underlying41 ?_
  refine wpS_does2 (i := 5) (d := some 18) (rem := [_, _, _]) (out := [_, _, _, _, _]) rfl (by rfl) rfl Tryz.call44 (Does.ofList (bsame_d (listT [_, _]) _ x (vL 0 rfl rowT_reads) lx.out _ b (vL 1 rfl hb) lb)) rfl rfl HM19.out [1, 1] rfl covS_nil rfl rfl ?_
  rintro W21 hm20 -
  have HM22 := Lib.hid hm20
  clear hm20
  simp only [Act.put, List.setIfInBounds_toArray, List.set_cons_succ, List.set_cons_zero]
  refine wT [6, 7] ?_
  refine wZ (wp_ret (bodyPost_ret (results_tmp rfl _ _ _) rfl ?_))
  rw [hc.out]
  exact does_ret (Mem.only (M := [_]) HM22.out [1] rfl) rfl rfl
 ·have g1 : (e == 0) = false := beq_eq_false_iff_ne.2 h0
  have hc : Hid (z = false) := Lib.hid (by rw [← hz.out]; unfold belowB; rw [hx.out, decide_eq_false h0]; rfl)
  replace h0 := Lib.hid h0
  refine wN [(0, 1), (1, 1), (2, 1), (3, 1), (4, 1), (5, 3), (6, 1), (7, 1)] (wT [0, 1, 2] ?_)
  refine wK 3 ?_
  refine wK 4 ?_
  refine wK 5 ?_
  refine wT [6, 7] ?_
  refine wZ (wp_ret (bodyPost_ret (results_tmp rfl _ _ _) rfl ?_))
  rw [hc.out]
  exact does_ret (Mem.only (M := [_]) HM19.out [2] rfl) rfl rfl
set_option maxHeartbeats 4000000 in
set_option maxRecDepth 100000 in
theorem bput_d (R : At) (sa : Value) (a : Bg) (ha : Reads elemV R sa a.v) (la : a.v.length ≤ 4398046510976) (k : Nat → Int) (d1 d2 : Int) (t : ByteArray) (x : Bg) (e : Int) (hx : putBR a k (d1, d2) t = (x, e)) : DoesU Tryz.prog 63 #[bgV a.k sa, vV k, .agg #[.int .i64 d1, .int .i64 d2], .string t] [R] (fun u => [bagE u x e, R]) := by
 intro w H hp
 have HM0 := Lib.hid (mem_refl hp)
 clear hp
 obtain ⟨pa, ca, rfl⟩ := row_form (Mem.src HM0.out 0 rfl ha)
 go_enter Tryz.func63, Tryz.ntmps63
 refine wp_seq (wN [(0, 3), (1, 3), (2, 3), (3, 3), (4, 1)] ?_)
 refine wBh 0 HM0 fun b3 W2 HM4 => ?_
 refine wBh 1 HM4 fun b7 W6 HM8 => ?_
 refine wBh 2 HM8 fun b11 W10 HM12 => ?_
 refine wpS_alloc (i := 3) (dd := 8) (z := bgV noB.k (.slice none 0 0)) (cs := (bgC noB.k (.slice none 0 0)).toArray) rfl (by rfl) rfl (by kernel_rfl) rfl HM12.out covS_nil rfl ?_
 rintro b15 W14 hm13 -
 have HM16 := Lib.hid hm13
 clear hm13
 simp only [Act.put, List.setIfInBounds_toArray, List.set_cons_succ, List.set_cons_zero]
 refine wT [4] ?_
 refine wZ (wp_seq (wp_seq ?_))
 rcases put_ways5 hx with ⟨hm1, rfl, rfl⟩ | ⟨hm1, hm2, rfl, rfl⟩ | ⟨hm1, hm2, hm3, rfl, rfl⟩ | ⟨hm1, hm2, hm3, hm4, rfl, rfl⟩ | ⟨hm1, hm2, hm3, hm4, hm5, rfl, rfl⟩ | ⟨hm1, hm2, hm3, hm4, hm5, hjl, rfl, rfl⟩ | ⟨hm1, hm2, hm3, hm4, hm5, hjl, hxe, rfl⟩
 ·clear hx
  replace hm1 := Lib.hid hm1
  refine wN [(0, 1), (1, 3), (2, 1), (3, 1), (4, 1), (5, 3), (6, 1), (7, 1), (8, 1), (9, 1), (10, 3), (11, 1), (12, 1), (13, 1), (14, 1), (15, 1), (16, 1), (17, 3), (18, 1), (19, 1), (20, 1), (21, 1), (22, 1), (23, 1)] ?_
  refine wL 0 (bgC (a.k) (.slice pa a.v.length ca)) (HM16.out.part 3 rfl (bgC_all)) Tryz.underlying41 ?_
  refine wpS_does1 (i := 1) (d := some 12) (rem := [_, _, _, _]) (out := [_, _, _, _, _]) rfl (by rfl) rfl Tryz.call72 (bmay_d R _ a ha la) rfl HM16.out [4] rfl covS_nil rfl rfl ?_
  rintro W18 hm17 -
  rw [hm1.out]
  have HM19 := Lib.hid hm17
  clear hm17
  simp only [Act.put, List.setIfInBounds_toArray, List.set_cons_succ, List.set_cons_zero]
  refine wT [2, 3] ?_
  refine wK 4 ?_
  refine wK 5 ?_
  have Cb6 := Mem.cell HM19.out 2 rfl
  refine wT [6, 7, 8, 9] ?_
  clear Cb6
  refine wK 10 ?_
  refine wT [11, 12, 13, 14] ?_
  refine wK 15 ?_
  have Cb6 := Mem.cell HM19.out 2 rfl
  refine wT [16] ?_
  clear Cb6
  refine wK 17 ?_
  refine wT [18, 19, 20, 21, 22, 23] ?_
  refine wZ (wp_cond_true rfl (wp_seq (wN [(0, 1), (1, 3), (2, 1)] (wT [0] ?_))))
  refine wpS_storeA (i := 1) (L2 := [_, _, _, _]) (cs' := bgC (noB.k) (.slice none 0 0)) rfl (by rfl) rfl rfl rfl (by kernel_rfl) (bgC_one _ _ _) HM19.out 1 rfl rfl (by kernel_rfl) (by kernel_rfl) covS_nil rfl ?_
  rintro W21 hm20 -
  have HM22 := Lib.hid hm20
  clear hm20
  refine wT [2] ?_
  refine wZ (wp_ret (then_ret ?_))
  refine ret_cell_tmp rfl HM22.out 0 rfl rfl Tryz.underlying41 rfl (by kernel_rfl) rfl rfl ?_
  exact doesU_ret (post := fun u => [bagE u noB 1, R]) (Mem.toBagE (x := noB) (Mem.nilRow elemV (Mem.only (M := [_]) HM22.out [1] rfl))) rfl
 ·clear hx
  replace hm1 := Lib.hid hm1
  replace hm2 := Lib.hid hm2
  refine wN [(0, 1), (1, 3), (2, 1), (3, 1), (4, 1), (5, 3), (6, 1), (7, 1), (8, 1), (9, 1), (10, 3), (11, 1), (12, 1), (13, 1), (14, 1), (15, 1), (16, 1), (17, 3), (18, 1), (19, 1), (20, 1), (21, 1), (22, 1), (23, 1)] ?_
  refine wL 0 (bgC (a.k) (.slice pa a.v.length ca)) (HM16.out.part 3 rfl (bgC_all)) Tryz.underlying41 ?_
  refine wpS_does1 (i := 1) (d := some 12) (rem := [_, _, _, _]) (out := [_, _, _, _, _]) rfl (by rfl) rfl Tryz.call72 (bmay_d R _ a ha la) rfl HM16.out [4] rfl covS_nil rfl rfl ?_
  rintro W24 hm23 -
  rw [hm1.out]
  have HM25 := Lib.hid hm23
  clear hm23
  simp only [Act.put, List.setIfInBounds_toArray, List.set_cons_succ, List.set_cons_zero]
  refine wT [2, 3] ?_
  refine wL 4 (vcC (k)) (HM25.out.cells0 3 rfl) Tryz.underlying38 ?_
  refine wpS_does1 (i := 5) (d := some 16) (rem := [_, _, _, _, _]) (out := [_, _, _, _, _]) rfl (by rfl) rfl Tryz.call99 (cmay_d k) rfl HM25.out [] rfl covS_nil rfl rfl ?_
  rintro W27 hm26 -
  rw [hm2.out]
  have HM28 := Lib.hid hm26
  clear hm26
  simp only [Act.put, List.setIfInBounds_toArray, List.set_cons_succ, List.set_cons_zero]
  have Cb6 := Mem.cell HM28.out 2 rfl
  refine wT [6, 7, 8, 9] ?_
  clear Cb6
  refine wK 10 ?_
  refine wT [11, 12, 13, 14] ?_
  refine wK 15 ?_
  have Cb6 := Mem.cell HM28.out 2 rfl
  refine wT [16] ?_
  clear Cb6
  refine wK 17 ?_
  refine wT [18, 19, 20, 21, 22, 23] ?_
  refine wZ (wp_cond_true rfl (wp_seq (wN [(0, 1), (1, 3), (2, 1)] (wT [0] ?_))))
  refine wpS_storeA (i := 1) (L2 := [_, _, _, _]) (cs' := bgC (noB.k) (.slice none 0 0)) rfl (by rfl) rfl rfl rfl (by kernel_rfl) (bgC_one _ _ _) HM28.out 1 rfl rfl (by kernel_rfl) (by kernel_rfl) covS_nil rfl ?_
  rintro W30 hm29 -
  have HM31 := Lib.hid hm29
  clear hm29
  refine wT [2] ?_
  refine wZ (wp_ret (then_ret ?_))
  refine ret_cell_tmp rfl HM31.out 0 rfl rfl Tryz.underlying41 rfl (by kernel_rfl) rfl rfl ?_
  exact doesU_ret (post := fun u => [bagE u noB 1, R]) (Mem.toBagE (x := noB) (Mem.nilRow elemV (Mem.only (M := [_]) HM31.out [1] rfl))) rfl
 ·clear hx
  replace hm1 := Lib.hid hm1
  replace hm2 := Lib.hid hm2
  replace hm3 := Lib.hid hm3
  refine wN [(0, 1), (1, 3), (2, 1), (3, 1), (4, 1), (5, 3), (6, 1), (7, 1), (8, 1), (9, 1), (10, 3), (11, 1), (12, 1), (13, 1), (14, 1), (15, 1), (16, 1), (17, 3), (18, 1), (19, 1), (20, 1), (21, 1), (22, 1), (23, 1)] ?_
  refine wL 0 (bgC (a.k) (.slice pa a.v.length ca)) (HM16.out.part 3 rfl (bgC_all)) Tryz.underlying41 ?_
  refine wpS_does1 (i := 1) (d := some 12) (rem := [_, _, _, _]) (out := [_, _, _, _, _]) rfl (by rfl) rfl Tryz.call72 (bmay_d R _ a ha la) rfl HM16.out [4] rfl covS_nil rfl rfl ?_
  rintro W33 hm32 -
  rw [hm1.out]
  have HM34 := Lib.hid hm32
  clear hm32
  simp only [Act.put, List.setIfInBounds_toArray, List.set_cons_succ, List.set_cons_zero]
  refine wT [2, 3] ?_
  refine wL 4 (vcC (k)) (HM34.out.cells0 3 rfl) Tryz.underlying38 ?_
  refine wpS_does1 (i := 5) (d := some 16) (rem := [_, _, _, _, _]) (out := [_, _, _, _, _]) rfl (by rfl) rfl Tryz.call99 (cmay_d k) rfl HM34.out [] rfl covS_nil rfl rfl ?_
  rintro W36 hm35 -
  rw [hm2.out]
  have HM37 := Lib.hid hm35
  clear hm35
  simp only [Act.put, List.setIfInBounds_toArray, List.set_cons_succ, List.set_cons_zero]
  have Cb6 := Mem.cell HM37.out 2 rfl
  refine wT [6, 7, 8, 9] ?_
  clear Cb6
  refine wpS_does1 (i := 10) (d := some 21) (rem := [_, _, _, _, _]) (out := [_, _, _, _, _]) rfl (by rfl) rfl Tryz.call100 (bdot_d d1 d2) rfl HM37.out [] rfl covS_nil rfl rfl ?_
  rintro W39 hm38 -
  rw [hm3.out]
  have HM40 := Lib.hid hm38
  clear hm38
  simp only [Act.put, List.setIfInBounds_toArray, List.set_cons_succ, List.set_cons_zero]
  refine wT [11, 12, 13, 14] ?_
  refine wK 15 ?_
  have Cb6 := Mem.cell HM40.out 2 rfl
  refine wT [16] ?_
  clear Cb6
  refine wK 17 ?_
  refine wT [18, 19, 20, 21, 22, 23] ?_
  refine wZ (wp_cond_true rfl (wp_seq (wN [(0, 1), (1, 3), (2, 1)] (wT [0] ?_))))
  refine wpS_storeA (i := 1) (L2 := [_, _, _, _]) (cs' := bgC (noB.k) (.slice none 0 0)) rfl (by rfl) rfl rfl rfl (by kernel_rfl) (bgC_one _ _ _) HM40.out 1 rfl rfl (by kernel_rfl) (by kernel_rfl) covS_nil rfl ?_
  rintro W42 hm41 -
  have HM43 := Lib.hid hm41
  clear hm41
  refine wT [2] ?_
  refine wZ (wp_ret (then_ret ?_))
  refine ret_cell_tmp rfl HM43.out 0 rfl rfl Tryz.underlying41 rfl (by kernel_rfl) rfl rfl ?_
  exact doesU_ret (post := fun u => [bagE u noB 1, R]) (Mem.toBagE (x := noB) (Mem.nilRow elemV (Mem.only (M := [_]) HM43.out [1] rfl))) rfl
 ·clear hx
  replace hm1 := Lib.hid hm1
  replace hm2 := Lib.hid hm2
  replace hm3 := Lib.hid hm3
  replace hm4 := Lib.hid hm4
  refine wN [(0, 1), (1, 3), (2, 1), (3, 1), (4, 1), (5, 3), (6, 1), (7, 1), (8, 1), (9, 1), (10, 3), (11, 1), (12, 1), (13, 1), (14, 1), (15, 1), (16, 1), (17, 3), (18, 1), (19, 1), (20, 1), (21, 1), (22, 1), (23, 1)] ?_
  refine wL 0 (bgC (a.k) (.slice pa a.v.length ca)) (HM16.out.part 3 rfl (bgC_all)) Tryz.underlying41 ?_
  refine wpS_does1 (i := 1) (d := some 12) (rem := [_, _, _, _]) (out := [_, _, _, _, _]) rfl (by rfl) rfl Tryz.call72 (bmay_d R _ a ha la) rfl HM16.out [4] rfl covS_nil rfl rfl ?_
  rintro W45 hm44 -
  rw [hm1.out]
  have HM46 := Lib.hid hm44
  clear hm44
  simp only [Act.put, List.setIfInBounds_toArray, List.set_cons_succ, List.set_cons_zero]
  refine wT [2, 3] ?_
  refine wL 4 (vcC (k)) (HM46.out.cells0 3 rfl) Tryz.underlying38 ?_
  refine wpS_does1 (i := 5) (d := some 16) (rem := [_, _, _, _, _]) (out := [_, _, _, _, _]) rfl (by rfl) rfl Tryz.call99 (cmay_d k) rfl HM46.out [] rfl covS_nil rfl rfl ?_
  rintro W48 hm47 -
  rw [hm2.out]
  have HM49 := Lib.hid hm47
  clear hm47
  simp only [Act.put, List.setIfInBounds_toArray, List.set_cons_succ, List.set_cons_zero]
  have Cb6 := Mem.cell HM49.out 2 rfl
  refine wT [6, 7, 8, 9] ?_
  clear Cb6
  refine wpS_does1 (i := 10) (d := some 21) (rem := [_, _, _, _, _]) (out := [_, _, _, _, _]) rfl (by rfl) rfl Tryz.call100 (bdot_d d1 d2) rfl HM49.out [] rfl covS_nil rfl rfl ?_
  rintro W51 hm50 -
  rw [hm3.out]
  have HM52 := Lib.hid hm50
  clear hm50
  simp only [Act.put, List.setIfInBounds_toArray, List.set_cons_succ, List.set_cons_zero]
  refine wT [11, 12, 13, 14] ?_
  refine wL 15 (vcC (a.k)) (HM52.out.part 4 rfl (bgC_vc)) Tryz.underlying38 ?_
  have Cb6 := Mem.cell HM52.out 2 rfl
  refine wT [16] ?_
  clear Cb6
  refine wpS_does2 (i := 17) (d := some 28) (rem := [_, _, _, _, _]) (out := [_, _, _, _, _]) rfl (by rfl) rfl Tryz.call101 (chas_d a.k d1 d2) rfl rfl HM52.out [] rfl covS_nil rfl rfl ?_
  rintro W54 hm53 -
  rw [hm4.out]
  have HM55 := Lib.hid hm53
  clear hm53
  simp only [Act.put, List.setIfInBounds_toArray, List.set_cons_succ, List.set_cons_zero]
  refine wT [18, 19, 20, 21, 22, 23] ?_
  refine wZ (wp_cond_true rfl (wp_seq (wN [(0, 1), (1, 3), (2, 1)] (wT [0] ?_))))
  refine wpS_storeA (i := 1) (L2 := [_, _, _, _]) (cs' := bgC (noB.k) (.slice none 0 0)) rfl (by rfl) rfl rfl rfl (by kernel_rfl) (bgC_one _ _ _) HM55.out 1 rfl rfl (by kernel_rfl) (by kernel_rfl) covS_nil rfl ?_
  rintro W57 hm56 -
  have HM58 := Lib.hid hm56
  clear hm56
  refine wT [2] ?_
  refine wZ (wp_ret (then_ret ?_))
  refine ret_cell_tmp rfl HM58.out 0 rfl rfl Tryz.underlying41 rfl (by kernel_rfl) rfl rfl ?_
  exact doesU_ret (post := fun u => [bagE u noB 1, R]) (Mem.toBagE (x := noB) (Mem.nilRow elemV (Mem.only (M := [_]) HM58.out [1] rfl))) rfl
 ·clear hx
  have g5 : decide ((64 : Int) < (t.size : Int)) = true := decide_eq_true (by omega)
  have g5' : decide (64 < t.size) = true := decide_eq_true (by omega)
  replace hm1 := Lib.hid hm1
  replace hm2 := Lib.hid hm2
  replace hm3 := Lib.hid hm3
  replace hm4 := Lib.hid hm4
  replace hm5 := Lib.hid hm5
  refine wN [(0, 1), (1, 3), (2, 1), (3, 1), (4, 1), (5, 3), (6, 1), (7, 1), (8, 1), (9, 1), (10, 3), (11, 1), (12, 1), (13, 1), (14, 1), (15, 1), (16, 1), (17, 3), (18, 1), (19, 1), (20, 1), (21, 1), (22, 1), (23, 1)] ?_
  refine wL 0 (bgC (a.k) (.slice pa a.v.length ca)) (HM16.out.part 3 rfl (bgC_all)) Tryz.underlying41 ?_
  refine wpS_does1 (i := 1) (d := some 12) (rem := [_, _, _, _]) (out := [_, _, _, _, _]) rfl (by rfl) rfl Tryz.call72 (bmay_d R _ a ha la) rfl HM16.out [4] rfl covS_nil rfl rfl ?_
  rintro W60 hm59 -
  rw [hm1.out]
  have HM61 := Lib.hid hm59
  clear hm59
  simp only [Act.put, List.setIfInBounds_toArray, List.set_cons_succ, List.set_cons_zero]
  refine wT [2, 3] ?_
  refine wL 4 (vcC (k)) (HM61.out.cells0 3 rfl) Tryz.underlying38 ?_
  refine wpS_does1 (i := 5) (d := some 16) (rem := [_, _, _, _, _]) (out := [_, _, _, _, _]) rfl (by rfl) rfl Tryz.call99 (cmay_d k) rfl HM61.out [] rfl covS_nil rfl rfl ?_
  rintro W63 hm62 -
  rw [hm2.out]
  have HM64 := Lib.hid hm62
  clear hm62
  simp only [Act.put, List.setIfInBounds_toArray, List.set_cons_succ, List.set_cons_zero]
  have Cb6 := Mem.cell HM64.out 2 rfl
  refine wT [6, 7, 8, 9] ?_
  clear Cb6
  refine wpS_does1 (i := 10) (d := some 21) (rem := [_, _, _, _, _]) (out := [_, _, _, _, _]) rfl (by rfl) rfl Tryz.call100 (bdot_d d1 d2) rfl HM64.out [] rfl covS_nil rfl rfl ?_
  rintro W66 hm65 -
  rw [hm3.out]
  have HM67 := Lib.hid hm65
  clear hm65
  simp only [Act.put, List.setIfInBounds_toArray, List.set_cons_succ, List.set_cons_zero]
  refine wT [11, 12, 13, 14] ?_
  refine wL 15 (vcC (a.k)) (HM67.out.part 4 rfl (bgC_vc)) Tryz.underlying38 ?_
  have Cb6 := Mem.cell HM67.out 2 rfl
  refine wT [16] ?_
  clear Cb6
  refine wpS_does2 (i := 17) (d := some 28) (rem := [_, _, _, _, _]) (out := [_, _, _, _, _]) rfl (by rfl) rfl Tryz.call101 (chas_d a.k d1 d2) rfl rfl HM67.out [] rfl covS_nil rfl rfl ?_
  rintro W69 hm68 -
  rw [hm4.out]
  have HM70 := Lib.hid hm68
  clear hm68
  simp only [Act.put, List.setIfInBounds_toArray, List.set_cons_succ, List.set_cons_zero]
  refine wT [18, 19, 20, 21, 22, 23] ?_
  refine wZ (wp_cond_true rfl (wp_seq (wN [(0, 1), (1, 3), (2, 1)] (wT [0] ?_))))
  refine wpS_storeA (i := 1) (L2 := [_, _, _, _]) (cs' := bgC (noB.k) (.slice none 0 0)) rfl (by rfl) rfl rfl rfl (by kernel_rfl) (bgC_one _ _ _) HM70.out 1 rfl rfl (by kernel_rfl) (by kernel_rfl) covS_nil rfl ?_
  rintro W72 hm71 -
  have HM73 := Lib.hid hm71
  clear hm71
  refine wT [2] ?_
  refine wZ (wp_ret (then_ret ?_))
  refine ret_cell_tmp rfl HM73.out 0 rfl rfl Tryz.underlying41 rfl (by kernel_rfl) rfl rfl ?_
  exact doesU_ret (post := fun u => [bagE u noB 1, R]) (Mem.toBagE (x := noB) (Mem.nilRow elemV (Mem.only (M := [_]) HM73.out [1] rfl))) rfl
 ·clear hx
  have g5 : decide ((64 : Int) < (t.size : Int)) = false := decide_eq_false (by omega)
  have g5' : decide (64 < t.size) = false := decide_eq_false (by omega)
  replace hm1 := Lib.hid hm1
  replace hm2 := Lib.hid hm2
  replace hm3 := Lib.hid hm3
  replace hm4 := Lib.hid hm4
  replace hm5 := Lib.hid hm5
  replace hjl := Lib.hid hjl
  refine wN [(0, 1), (1, 3), (2, 1), (3, 1), (4, 1), (5, 3), (6, 1), (7, 1), (8, 1), (9, 1), (10, 3), (11, 1), (12, 1), (13, 1), (14, 1), (15, 1), (16, 1), (17, 3), (18, 1), (19, 1), (20, 1), (21, 1), (22, 1), (23, 1)] ?_
  refine wL 0 (bgC (a.k) (.slice pa a.v.length ca)) (HM16.out.part 3 rfl (bgC_all)) Tryz.underlying41 ?_
  refine wpS_does1 (i := 1) (d := some 12) (rem := [_, _, _, _]) (out := [_, _, _, _, _]) rfl (by rfl) rfl Tryz.call72 (bmay_d R _ a ha la) rfl HM16.out [4] rfl covS_nil rfl rfl ?_
  rintro W75 hm74 -
  rw [hm1.out]
  have HM76 := Lib.hid hm74
  clear hm74
  simp only [Act.put, List.setIfInBounds_toArray, List.set_cons_succ, List.set_cons_zero]
  refine wT [2, 3] ?_
  refine wL 4 (vcC (k)) (HM76.out.cells0 3 rfl) Tryz.underlying38 ?_
  refine wpS_does1 (i := 5) (d := some 16) (rem := [_, _, _, _, _]) (out := [_, _, _, _, _]) rfl (by rfl) rfl Tryz.call99 (cmay_d k) rfl HM76.out [] rfl covS_nil rfl rfl ?_
  rintro W78 hm77 -
  rw [hm2.out]
  have HM79 := Lib.hid hm77
  clear hm77
  simp only [Act.put, List.setIfInBounds_toArray, List.set_cons_succ, List.set_cons_zero]
  have Cb6 := Mem.cell HM79.out 2 rfl
  refine wT [6, 7, 8, 9] ?_
  clear Cb6
  refine wpS_does1 (i := 10) (d := some 21) (rem := [_, _, _, _, _]) (out := [_, _, _, _, _]) rfl (by rfl) rfl Tryz.call100 (bdot_d d1 d2) rfl HM79.out [] rfl covS_nil rfl rfl ?_
  rintro W81 hm80 -
  rw [hm3.out]
  have HM82 := Lib.hid hm80
  clear hm80
  simp only [Act.put, List.setIfInBounds_toArray, List.set_cons_succ, List.set_cons_zero]
  refine wT [11, 12, 13, 14] ?_
  refine wL 15 (vcC (a.k)) (HM82.out.part 4 rfl (bgC_vc)) Tryz.underlying38 ?_
  have Cb6 := Mem.cell HM82.out 2 rfl
  refine wT [16] ?_
  clear Cb6
  refine wpS_does2 (i := 17) (d := some 28) (rem := [_, _, _, _, _]) (out := [_, _, _, _, _]) rfl (by rfl) rfl Tryz.call101 (chas_d a.k d1 d2) rfl rfl HM82.out [] rfl covS_nil rfl rfl ?_
  rintro W84 hm83 -
  rw [hm4.out]
  have HM85 := Lib.hid hm83
  clear hm83
  simp only [Act.put, List.setIfInBounds_toArray, List.set_cons_succ, List.set_cons_zero]
  refine wT [18, 19, 20, 21, 22, 23] ?_
  refine wZ (wp_cond_false rfl (wp_skip (then_normal (wp_seq (wN [(0, 1), (1, 1), (2, 0), (3, 3), (4, 1)] (wT [0] ?_))))))
  refine wM 1 (.slice pa a.v.length ca) (HM85.out.part1 4 rfl bgC_sl) Tryz.underlying39 ?_
  refine wpS_funcC1 (i := 2) (d := some 38) (v1 := .pointer (some ⟨b7, 0, none⟩)) rfl (by rfl) rfl rfl rfl ?_
  simp only [Act.put, List.setIfInBounds_toArray, List.set_cons_succ, List.set_cons_zero]
  refine wpS_doesU2 (i := 3) (d := some 39) (rem := [_, _, _]) rfl (by rfl) rfl Tryz.call102 (bthose_d R (boxT b7 (.cells (vcC k).toArray 38 (0, 0))) _ a.v (fun W H h => rowAt_src (ha W H h)) (by have := (mayB_iff.1 hm1.out).len; omega) 103 (.pointer (some ⟨b7, 0, none⟩)) (fun x => !hasV k x.1) Tryz.call103 (fun x _ => bput1_d R b7 k x)) rfl rfl HM85.out [3, 0] rfl covS_nil (fun _ => rfl) rfl ?_
  rintro u88 W87 hm86 -
  obtain ⟨p1, c1, hu1⟩ := row_form (Mem.src hm86 0 rfl rowT_reads)
  subst hu1
  have hm86q := hm86
  have HM89 := Lib.hid hm86q
  clear hm86q
  simp only [Act.put, List.setIfInBounds_toArray, List.set_cons_succ, List.set_cons_zero]
  refine wT [4] ?_
  refine wZ (wp_seq ?_)
  have hpl : Hid ((leftB a k).length ≤ 32) := Lib.hid (Nat.le_trans (List.length_filter_le _ _) (mayB_iff.1 hm1.out).len)
  have hcu : Hid ((leftB a k).length ≤ c1) := Lib.hid (row_cap (Mem.src HM89.out 0 rfl rowT_reads))
  refine wN [(0, 1), (1, 1), (2, 1), (3, 1), (4, 3), (5, 1)] ?_
  have Cb6 := Mem.cell HM89.out 4 rfl
  refine wT [0, 1, 2, 3] ?_
  clear Cb6
  refine wpS_doesU2 (i := 4) (d := some 44) (rem := [_, _, _, _, _]) rfl (by rfl) rfl Tryz.call104 (bwith_d p1 c1 (leftB a k) ((d1, d2), t) ((mayB_iff.1 hm1.out).srt.sublist List.filter_sublist) (by have := hpl.out; omega) hcu.out) rfl rfl HM89.out [0] rfl covS_nil (fun _ => rfl) rfl ?_
  rintro u92 W91 hm90 -
  obtain ⟨p2, c2, hu2⟩ := row_form (Mem.src hm90 0 rfl rowT_reads)
  subst hu2
  have HM93 := Lib.hid hm90
  clear hm90
  simp only [Act.put, List.setIfInBounds_toArray, List.set_cons_succ, List.set_cons_zero]
  refine wT [5] ?_
  refine wZ (wp_seq ?_)
  have hfj : insB ((d1, d2), t) (leftB a k) = (putB a k (d1, d2) t).v := rfl
  rw [hfj] at HM93 ⊢
  have hmd : Hid ((if (putB a k (d1, d2) t).v.length ≤ 32 then Value.tuple #[bgV (withV (joinV a.k k) (d1, d2)) (.slice p2 (putB a k (d1, d2) t).v.length c2), .int .i64 0] else Value.tuple #[bgV noB.k (.slice none 0 0), .int .i64 5]) = Value.tuple #[bgV noB.k (.slice none 0 0), .int .i64 5]) := Lib.hid (if_neg hjl.out)
  refine wp_region_M (fun k => k ∈ ([b15, b3, b7, b11] : List Nat)) [(0, 1), (1, 1), (2, 1), (4, 2), (6, 0), (3, 3), (5, 3), (7, 3), (8, 1), (9, 1), (10, 4), (11, 1)] (by kernel_rfl) (by kernel_rfl) HM93.out ?_
  intro W94 hm95
  have HM96 := Lib.hid hm95
  clear hm95
  refine wT [0] ?_
  refine wL 1 (vcC (a.k)) (HM96.out.part 5 rfl (bgC_vc)) Tryz.underlying38 ?_
  refine wL 2 (vcC (k)) (HM96.out.cells0 1 rfl) Tryz.underlying38 ?_
  have Cb6 := Mem.cell HM96.out 4 rfl
  refine wS [4] ?_
  clear Cb6
  refine wA [6] ?_
  refine wpS_does2 (i := 3) (d := some 48) (rem := [_, _, _, _, _, _]) (out := [_, _, _, _, _, _]) rfl (by rfl) rfl Tryz.call107 (cjoin_d a.k k) rfl rfl HM96.out [] rfl (covS_box 3 rfl (covS_box 5 rfl (covS_box 1 rfl (covS_box 4 rfl covS_nil)))) rfl rfl ?_
  rintro W98 hm97 hg99
  have HM100 := Lib.hid hm97
  clear hm97
  simp only [Act.put, List.setIfInBounds_toArray, List.set_cons_succ, List.set_cons_zero]
  refine wpS_does2 (i := 5) (d := some 50) (rem := [_, _, _, _, _, _]) (out := [_, _, _, _, _, _]) rfl (by rfl) rfl Tryz.call106 (cwith_d (joinV a.k k) d1 d2) rfl rfl HM100.out [] rfl (covS_box 3 rfl (covS_box 5 rfl (covS_box 1 rfl (covS_box 4 rfl covS_nil)))) rfl rfl ?_
  rintro W102 hm101 hg103
  have HM104 := Lib.hid hm101
  clear hm101
  simp only [Act.put, List.setIfInBounds_toArray, List.set_cons_succ, List.set_cons_zero]
  refine wpS_does2 (i := 7) (d := some 52) (rem := [_, _, _, _, _, _]) (out := [_, _, _, _, _, _]) rfl (by rfl) rfl Tryz.call105 (bmade_d (withV (joinV a.k k) (d1, d2)) p2 _ c2) rfl rfl HM104.out [] rfl (covS_box 3 rfl (covS_box 5 rfl (covS_box 1 rfl (covS_box 4 rfl covS_nil)))) rfl rfl ?_
  rintro W106 hm105 hg107
  rw [hmd.out]
  have HM108 := Lib.hid hm105
  clear hm105
  simp only [Act.put, List.setIfInBounds_toArray, List.set_cons_succ, List.set_cons_zero]
  refine wT [8, 9] ?_
  refine wpS_storeA4 (i := 10) (L2 := [_, _, _, _, _]) (cs' := bgC (noB.k) (.slice none 0 0)) rfl (by rfl) rfl rfl rfl (by kernel_rfl) (bgC_one _ _ _) HM108.out 3 rfl rfl (by kernel_rfl) (by kernel_rfl)  rfl ?_
  rintro W111 hm110
  have HM112 := Lib.hid hm110
  clear hm110
  refine wT [11] ?_
  refine wZ (wp_ret ?_)
  refine ret_cell_tmp rfl HM112.out 0 rfl rfl Tryz.underlying41 rfl (by kernel_rfl) rfl rfl ?_
  exact doesU_ret (post := fun u => [bagE u noB 5, R]) (Mem.toBagE (x := noB) (Mem.nilRow elemV (Mem.only (M := [_]) HM112.out [3] rfl))) rfl
 ·clear hx
  have g5 : decide ((64 : Int) < (t.size : Int)) = false := decide_eq_false (by omega)
  have g5' : decide (64 < t.size) = false := decide_eq_false (by omega)
  replace hm1 := Lib.hid hm1
  replace hm2 := Lib.hid hm2
  replace hm3 := Lib.hid hm3
  replace hm4 := Lib.hid hm4
  replace hm5 := Lib.hid hm5
  replace hjl := Lib.hid hjl
  replace hxe := Lib.hid hxe
  refine wN [(0, 1), (1, 3), (2, 1), (3, 1), (4, 1), (5, 3), (6, 1), (7, 1), (8, 1), (9, 1), (10, 3), (11, 1), (12, 1), (13, 1), (14, 1), (15, 1), (16, 1), (17, 3), (18, 1), (19, 1), (20, 1), (21, 1), (22, 1), (23, 1)] ?_
  refine wL 0 (bgC (a.k) (.slice pa a.v.length ca)) (HM16.out.part 3 rfl (bgC_all)) Tryz.underlying41 ?_
  refine wpS_does1 (i := 1) (d := some 12) (rem := [_, _, _, _]) (out := [_, _, _, _, _]) rfl (by rfl) rfl Tryz.call72 (bmay_d R _ a ha la) rfl HM16.out [4] rfl covS_nil rfl rfl ?_
  rintro W114 hm113 -
  rw [hm1.out]
  have HM115 := Lib.hid hm113
  clear hm113
  simp only [Act.put, List.setIfInBounds_toArray, List.set_cons_succ, List.set_cons_zero]
  refine wT [2, 3] ?_
  refine wL 4 (vcC (k)) (HM115.out.cells0 3 rfl) Tryz.underlying38 ?_
  refine wpS_does1 (i := 5) (d := some 16) (rem := [_, _, _, _, _]) (out := [_, _, _, _, _]) rfl (by rfl) rfl Tryz.call99 (cmay_d k) rfl HM115.out [] rfl covS_nil rfl rfl ?_
  rintro W117 hm116 -
  rw [hm2.out]
  have HM118 := Lib.hid hm116
  clear hm116
  simp only [Act.put, List.setIfInBounds_toArray, List.set_cons_succ, List.set_cons_zero]
  have Cb6 := Mem.cell HM118.out 2 rfl
  refine wT [6, 7, 8, 9] ?_
  clear Cb6
  refine wpS_does1 (i := 10) (d := some 21) (rem := [_, _, _, _, _]) (out := [_, _, _, _, _]) rfl (by rfl) rfl Tryz.call100 (bdot_d d1 d2) rfl HM118.out [] rfl covS_nil rfl rfl ?_
  rintro W120 hm119 -
  rw [hm3.out]
  have HM121 := Lib.hid hm119
  clear hm119
  simp only [Act.put, List.setIfInBounds_toArray, List.set_cons_succ, List.set_cons_zero]
  refine wT [11, 12, 13, 14] ?_
  refine wL 15 (vcC (a.k)) (HM121.out.part 4 rfl (bgC_vc)) Tryz.underlying38 ?_
  have Cb6 := Mem.cell HM121.out 2 rfl
  refine wT [16] ?_
  clear Cb6
  refine wpS_does2 (i := 17) (d := some 28) (rem := [_, _, _, _, _]) (out := [_, _, _, _, _]) rfl (by rfl) rfl Tryz.call101 (chas_d a.k d1 d2) rfl rfl HM121.out [] rfl covS_nil rfl rfl ?_
  rintro W123 hm122 -
  rw [hm4.out]
  have HM124 := Lib.hid hm122
  clear hm122
  simp only [Act.put, List.setIfInBounds_toArray, List.set_cons_succ, List.set_cons_zero]
  refine wT [18, 19, 20, 21, 22, 23] ?_
  refine wZ (wp_cond_false rfl (wp_skip (then_normal (wp_seq (wN [(0, 1), (1, 1), (2, 0), (3, 3), (4, 1)] (wT [0] ?_))))))
  refine wM 1 (.slice pa a.v.length ca) (HM124.out.part1 4 rfl bgC_sl) Tryz.underlying39 ?_
  refine wpS_funcC1 (i := 2) (d := some 38) (v1 := .pointer (some ⟨b7, 0, none⟩)) rfl (by rfl) rfl rfl rfl ?_
  simp only [Act.put, List.setIfInBounds_toArray, List.set_cons_succ, List.set_cons_zero]
  refine wpS_doesU2 (i := 3) (d := some 39) (rem := [_, _, _]) rfl (by rfl) rfl Tryz.call102 (bthose_d R (boxT b7 (.cells (vcC k).toArray 38 (0, 0))) _ a.v (fun W H h => rowAt_src (ha W H h)) (by have := (mayB_iff.1 hm1.out).len; omega) 103 (.pointer (some ⟨b7, 0, none⟩)) (fun x => !hasV k x.1) Tryz.call103 (fun x _ => bput1_d R b7 k x)) rfl rfl HM124.out [3, 0] rfl covS_nil (fun _ => rfl) rfl ?_
  rintro u127 W126 hm125 -
  obtain ⟨p1, c1, hu1⟩ := row_form (Mem.src hm125 0 rfl rowT_reads)
  subst hu1
  have hm125q := hm125
  have HM128 := Lib.hid hm125q
  clear hm125q
  simp only [Act.put, List.setIfInBounds_toArray, List.set_cons_succ, List.set_cons_zero]
  refine wT [4] ?_
  refine wZ (wp_seq ?_)
  have hpl : Hid ((leftB a k).length ≤ 32) := Lib.hid (Nat.le_trans (List.length_filter_le _ _) (mayB_iff.1 hm1.out).len)
  have hcu : Hid ((leftB a k).length ≤ c1) := Lib.hid (row_cap (Mem.src HM128.out 0 rfl rowT_reads))
  refine wN [(0, 1), (1, 1), (2, 1), (3, 1), (4, 3), (5, 1)] ?_
  have Cb6 := Mem.cell HM128.out 4 rfl
  refine wT [0, 1, 2, 3] ?_
  clear Cb6
  refine wpS_doesU2 (i := 4) (d := some 44) (rem := [_, _, _, _, _]) rfl (by rfl) rfl Tryz.call104 (bwith_d p1 c1 (leftB a k) ((d1, d2), t) ((mayB_iff.1 hm1.out).srt.sublist List.filter_sublist) (by have := hpl.out; omega) hcu.out) rfl rfl HM128.out [0] rfl covS_nil (fun _ => rfl) rfl ?_
  rintro u131 W130 hm129 -
  obtain ⟨p2, c2, hu2⟩ := row_form (Mem.src hm129 0 rfl rowT_reads)
  subst hu2
  have HM132 := Lib.hid hm129
  clear hm129
  simp only [Act.put, List.setIfInBounds_toArray, List.set_cons_succ, List.set_cons_zero]
  refine wT [5] ?_
  refine wZ (wp_seq ?_)
  have hfj : insB ((d1, d2), t) (leftB a k) = (putB a k (d1, d2) t).v := rfl
  rw [hfj] at HM132 ⊢
  have hmd : Hid ((if (putB a k (d1, d2) t).v.length ≤ 32 then Value.tuple #[bgV (withV (joinV a.k k) (d1, d2)) (.slice p2 (putB a k (d1, d2) t).v.length c2), .int .i64 0] else Value.tuple #[bgV noB.k (.slice none 0 0), .int .i64 5]) = Value.tuple #[bgV (putB a k (d1, d2) t).k (.slice p2 (putB a k (d1, d2) t).v.length c2), .int .i64 0]) := Lib.hid (if_pos hjl.out)
  refine wp_region_M (fun k => k ∈ ([b15, b3, b7, b11] : List Nat)) [(0, 1), (1, 1), (2, 1), (4, 2), (6, 0), (3, 3), (5, 3), (7, 3), (8, 1), (9, 1), (10, 4), (11, 1)] (by kernel_rfl) (by kernel_rfl) HM132.out ?_
  intro W133 hm134
  have HM135 := Lib.hid hm134
  clear hm134
  refine wT [0] ?_
  refine wL 1 (vcC (a.k)) (HM135.out.part 5 rfl (bgC_vc)) Tryz.underlying38 ?_
  refine wL 2 (vcC (k)) (HM135.out.cells0 1 rfl) Tryz.underlying38 ?_
  have Cb6 := Mem.cell HM135.out 4 rfl
  refine wS [4] ?_
  clear Cb6
  refine wA [6] ?_
  refine wpS_does2 (i := 3) (d := some 48) (rem := [_, _, _, _, _, _]) (out := [_, _, _, _, _, _]) rfl (by rfl) rfl Tryz.call107 (cjoin_d a.k k) rfl rfl HM135.out [] rfl (covS_box 3 rfl (covS_box 5 rfl (covS_box 1 rfl (covS_box 4 rfl covS_nil)))) rfl rfl ?_
  rintro W137 hm136 hg138
  have HM139 := Lib.hid hm136
  clear hm136
  simp only [Act.put, List.setIfInBounds_toArray, List.set_cons_succ, List.set_cons_zero]
  refine wpS_does2 (i := 5) (d := some 50) (rem := [_, _, _, _, _, _]) (out := [_, _, _, _, _, _]) rfl (by rfl) rfl Tryz.call106 (cwith_d (joinV a.k k) d1 d2) rfl rfl HM139.out [] rfl (covS_box 3 rfl (covS_box 5 rfl (covS_box 1 rfl (covS_box 4 rfl covS_nil)))) rfl rfl ?_
  rintro W141 hm140 hg142
  have HM143 := Lib.hid hm140
  clear hm140
  simp only [Act.put, List.setIfInBounds_toArray, List.set_cons_succ, List.set_cons_zero]
  refine wpS_does2 (i := 7) (d := some 52) (rem := [_, _, _, _, _, _]) (out := [_, _, _, _, _, _]) rfl (by rfl) rfl Tryz.call105 (bmade_d (withV (joinV a.k k) (d1, d2)) p2 _ c2) rfl rfl HM143.out [] rfl (covS_box 3 rfl (covS_box 5 rfl (covS_box 1 rfl (covS_box 4 rfl covS_nil)))) rfl rfl ?_
  rintro W145 hm144 hg146
  rw [hmd.out]
  have HM147 := Lib.hid hm144
  clear hm144
  simp only [Act.put, List.setIfInBounds_toArray, List.set_cons_succ, List.set_cons_zero]
  refine wT [8, 9] ?_
  refine wpS_storeA4 (i := 10) (L2 := [_, _, _, _, _]) (cs' := bgC ((putB a k (d1, d2) t).k) (.slice p2 (putB a k (d1, d2) t).v.length c2)) rfl (by rfl) rfl rfl rfl (by kernel_rfl) (bgC_one _ _ _) HM147.out 3 rfl rfl (by kernel_rfl) (by kernel_rfl)  rfl ?_
  rintro W150 hm149
  have HM151 := Lib.hid hm149
  clear hm149
  refine wT [11] ?_
  refine wZ (wp_ret ?_)
  refine ret_cell_tmp rfl HM151.out 0 rfl rfl Tryz.underlying41 rfl (by kernel_rfl) rfl rfl ?_
  rw [hxe.out]
  exact doesU_ret (post := fun u => [bagE u (putB a k (d1, d2) t) 0, R]) (Mem.toBagE (x := (putB a k (d1, d2) t)) (Mem.only (M := [_, _]) HM151.out [1, 2] rfl)) rfl
end
end Go.Proofs.YtcchkkdbagpgjaaGreat
