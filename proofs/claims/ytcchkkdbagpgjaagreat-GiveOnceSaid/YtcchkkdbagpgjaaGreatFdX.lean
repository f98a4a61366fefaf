/- The landed cursor: Back, Due. -/
import Derived.Test.YtcchkkdbagpgjaaGreatFdC
import Derived.Test.YtcchkkdbagpgjaaGreatPA
namespace Go.Proofs.YtcchkkdbagpgjaaGreat
open Go Go.RowKit Go.BigFrame
set_option maxHeartbeats 4000000 in
set_option maxRecDepth 100000 in
theorem fback_d (c : Nat) (F : Fd) (hF : FdOk F) (k : ByteArray) (hk : keyB k = true) (hd : F.due.length < 2000) : Does Tryz.prog 51 #[.pointer (some ⟨c, 0, none⟩), .string k] [fdT c F] (.bool (backB F k)) [fdT c (backF F k)] := by
 intro w H hp
 have HM0 := Lib.hid (mem_refl hp)
 clear hp
 obtain ⟨hFi', HM1'⟩ := Mem.fd HM0.out
 clear HM0
 have HM0 := Lib.hid HM1'
 clear HM1'
 have hFi := Lib.hid hFi'
 clear hFi'
 obtain ⟨xs, hhxs', hpxs', HM1'⟩ := Mem.hd HM0.out
 clear HM0
 obtain ⟨p, m, HM2'⟩ := Mem.due HM1'
 clear HM1'
 have HM0 := Lib.hid HM2'
 clear HM2'
 have hkz : 0 < k.size := by have := hk; unfold keyB at this; exact (of_decide_eq_true this).1
 have hhxs := Lib.hid hhxs'
 clear hhxs'
 have hpxs := Lib.hid hpxs'
 clear hpxs'
 go_enter Tryz.func51, Tryz.ntmps51
 refine wp_seq (wQ ?_)
 refine wp_seq (wp_seq ?_)
 have hbi := back_iff hFi.out.no hkz
 by_cases hpart : ofK k = F.part
 by_cases hgt' : ltK F.last k
 rotate_left
 by_cases hin0 : k ∈ F.due
 ·have gp : ((pK k : Int) != F.part) = false := by rw [pK_of hk]; exact bne_eq_false_iff_eq.2 hpart
  have hbb : Hid (backB F k = true) := Lib.hid (by rw [hbi, decide_eq_true hpart, decide_eq_false hgt']; rfl)
  have hin : Hid (hasL xs k = true) := Lib.hid (by rw [hasL_perm hpxs.out]; exact hasL_iff.2 hin0)
  have hbf : Hid (backF F k = F) := Lib.hid ((if_pos hbb.out).trans (by rw [insK_in hF.srt hin0]))
  clear hbi hpart hin0
  have hgt := Lib.hid hgt'
  clear hgt'
  refine wp_region_M (fun k => k ∈ ([c] : List Nat)) [(0, 1), (1, 1), (2, 1), (3, 1), (5, 0), (6, 0), (7, 0), (8, 2), (4, 3), (9, 1), (10, 1), (11, 1), (12, 1), (13, 1), (14, 1), (15, 1), (16, 1), (17, 1), (18, 1)] (by kernel_rfl) (by kernel_rfl) HM0.out ?_
  intro W1 hm2
  have HM3 := Lib.hid hm2
  clear hm2
  refine wT [0, 1, 2, 3] ?_
  refine wA [5, 6, 7] ?_
  have Cbx := Mem.cell HM3.out 0 rfl
  refine wS [8] ?_
  clear Cbx
  refine wD1h (hS := (covS_box 0 rfl covS_nil)) 4 [_, _] [_, _] Tryz.call36 (spof_d k hk) HM3 [] fun W5 HM7 => ?_
  have Cbx := Mem.cell HM7.out 0 rfl
  refine wT [9, 10, 11, 12, 13, 14, 15, 16] ?_
  clear Cbx
  refine wR 17 (run_gtrS (b := false) (decide_eq_false hgt.out) rfl rfl rfl) ?_
  refine wT [18] ?_
  refine wZ (wp_cond_false rfl (wp_skip (then_normal (wp_seq (wp_seq (wN [(0, 1), (1, 1), (2, 1), (3, 1), (4, 1), (5, 3), (6, 1)] ?_))))))
  have Cbx := Mem.cell HM7.out 0 rfl
  refine wT [0, 1, 2, 3, 4] ?_
  clear Cbx
  refine wD2 5 [_] [_, _] Tryz.call91 (dcont_d _ _ xs (fun W H h => (rowT_reads W H h).1) (by rw [hpxs.out.length_eq]; omega) k) HM7 [1] fun W9 hm8 => ?_
  rw [hin.out]
  have HM10 := Lib.hid hm8
  clear hm8
  refine wT [6] ?_
  refine wZ (wp_cond_false rfl (wp_skip (then_normal (wp_seq (wQ ?_)))))
  refine wp_ret (bodyPost_ret (results_tmp rfl _ _ _) rfl ?_)
  rw [hbb.out, hbf.out]
  exact does_ret (Mem.toFd hFi.out (Mem.toHd hhxs.out hpxs.out (Mem.toDue (xs := xs) rfl (Mem.only (M := [_, _]) HM10.out [1, 0] rfl)))) rfl rfl
 ·have gp : ((pK k : Int) != F.part) = false := by rw [pK_of hk]; exact bne_eq_false_iff_eq.2 hpart
  have hbb : Hid (backB F k = true) := Lib.hid (by rw [hbi, decide_eq_true hpart, decide_eq_false hgt']; rfl)
  have hin : Hid (hasL xs k = false) := Lib.hid (by rw [hasL_perm hpxs.out]; exact Bool.eq_false_iff.2 fun h => hin0 (hasL_iff.1 h))
  have hbf : Hid (backF F k = ⟨F.part, F.any, F.last, insK k F.due⟩) := Lib.hid (if_pos hbb.out)
  have hFi2 := Lib.hid (hFi.out.back k hd)
  rw [hbf.out] at hFi2
  have hni := Lib.hid hin0
  clear hbi hpart hin0
  have hgt := Lib.hid hgt'
  clear hgt'
  refine wp_region_M (fun k => k ∈ ([c] : List Nat)) [(0, 1), (1, 1), (2, 1), (3, 1), (5, 0), (6, 0), (7, 0), (8, 2), (4, 3), (9, 1), (10, 1), (11, 1), (12, 1), (13, 1), (14, 1), (15, 1), (16, 1), (17, 1), (18, 1)] (by kernel_rfl) (by kernel_rfl) HM0.out ?_
  intro W11 hm12
  have HM13 := Lib.hid hm12
  clear hm12
  refine wT [0, 1, 2, 3] ?_
  refine wA [5, 6, 7] ?_
  have Cbx := Mem.cell HM13.out 0 rfl
  refine wS [8] ?_
  clear Cbx
  refine wD1h (hS := (covS_box 0 rfl covS_nil)) 4 [_, _] [_, _] Tryz.call36 (spof_d k hk) HM13 [] fun W15 HM17 => ?_
  have Cbx := Mem.cell HM17.out 0 rfl
  refine wT [9, 10, 11, 12, 13, 14, 15, 16] ?_
  clear Cbx
  refine wR 17 (run_gtrS (b := false) (decide_eq_false hgt.out) rfl rfl rfl) ?_
  refine wT [18] ?_
  refine wZ (wp_cond_false rfl (wp_skip (then_normal (wp_seq (wp_seq (wN [(0, 1), (1, 1), (2, 1), (3, 1), (4, 1), (5, 3), (6, 1)] ?_))))))
  have Cbx := Mem.cell HM17.out 0 rfl
  refine wT [0, 1, 2, 3, 4] ?_
  clear Cbx
  refine wD2 5 [_] [_, _] Tryz.call91 (dcont_d _ _ xs (fun W H h => (rowT_reads W H h).1) (by rw [hpxs.out.length_eq]; omega) k) HM17 [1] fun W19 hm18 => ?_
  rw [hin.out]
  have HM20 := Lib.hid hm18
  clear hm18
  refine wT [6] ?_
  refine wZ (wp_cond_true rfl ?_)
  have HS21 := Mem.toHd hhxs.out hpxs.out (Mem.toDue (xs := xs) rfl (Mem.only (M := [_, _]) HM20.out [1, 0] rfl))
  have HM22 := Lib.hid HS21
  clear HS21
  refine wN [(0, 1), (1, 1), (2, 1), (3, 1), (4, 1), (5, 1), (6, 3)] (wT [0, 1, 2, 3, 4, 5] ?_)
  refine wU2 6 [] Tryz.call88 (hpush_d c F.part F.last F.due k hd) HM22 [0] fun u25 W24 hm23 => ?_
  have HM26 := Lib.hid hm23
  clear hm23
  refine wZ (wp_seq (wQ ?_))
  refine wp_ret (bodyPost_ret (results_tmp rfl _ _ _) rfl ?_)
  rw [hbb.out, hbf.out]
  exact does_ret (Mem.toFd (F := (⟨F.part, F.any, F.last, insK k F.due⟩ : Fd)) hFi2.out (Mem.hdPerm (insK_perm hni.out) (Mem.only (M := [_]) HM26.out [0] rfl))) rfl rfl
 ·have gp : ((pK k : Int) != F.part) = true := by rw [pK_of hk]; exact bne_iff_ne.2 hpart
  have hbb : Hid (backB F k = false) := Lib.hid (by rw [hbi, decide_eq_false hpart, Bool.false_and])
  have hbf : Hid (backF F k = F) := Lib.hid (if_neg (by rw [hbb.out]; exact Bool.false_ne_true))
  clear hbi hpart
  refine wp_region_M (fun k => k ∈ ([c] : List Nat)) [(0, 1), (1, 1), (2, 1), (3, 1), (5, 0), (6, 0), (7, 0), (8, 2), (4, 3), (9, 1), (10, 1), (11, 1), (12, 1), (13, 1), (14, 1), (15, 1), (16, 1), (17, 1), (18, 1)] (by kernel_rfl) (by kernel_rfl) HM0.out ?_
  intro W27 hm28
  have HM29 := Lib.hid hm28
  clear hm28
  refine wT [0, 1, 2, 3] ?_
  refine wA [5, 6, 7] ?_
  have Cbx := Mem.cell HM29.out 0 rfl
  refine wS [8] ?_
  clear Cbx
  refine wD1h (hS := (covS_box 0 rfl covS_nil)) 4 [_, _] [_, _] Tryz.call36 (spof_d k hk) HM29 [] fun W31 HM33 => ?_
  have Cbx := Mem.cell HM33.out 0 rfl
  refine wT [9, 10, 11, 12, 13, 14, 15, 16] ?_
  clear Cbx
  refine wK 17 ?_
  refine wT [18] ?_
  refine wZ (wp_cond_true rfl (wp_seq (wQ ?_)))
  refine wp_ret (then_ret (bodyPost_ret (results_tmp rfl _ _ _) rfl ?_))
  rw [hbb.out, hbf.out]
  exact does_ret (Mem.toFd hFi.out (Mem.toHd hhxs.out hpxs.out (Mem.toDue (xs := xs) rfl (Mem.only (M := [_, _]) HM33.out [0, 0] rfl)))) rfl rfl
 ·have gp : ((pK k : Int) != F.part) = false := by rw [pK_of hk]; exact bne_eq_false_iff_eq.2 hpart
  have hbb : Hid (backB F k = false) := Lib.hid (by rw [hbi, decide_eq_true hgt', Bool.not_true, Bool.and_false])
  have hbf : Hid (backF F k = F) := Lib.hid (if_neg (by rw [hbb.out]; exact Bool.false_ne_true))
  clear hbi hpart
  have hgt := Lib.hid hgt'
  clear hgt'
  refine wp_region_M (fun k => k ∈ ([c] : List Nat)) [(0, 1), (1, 1), (2, 1), (3, 1), (5, 0), (6, 0), (7, 0), (8, 2), (4, 3), (9, 1), (10, 1), (11, 1), (12, 1), (13, 1), (14, 1), (15, 1), (16, 1), (17, 1), (18, 1)] (by kernel_rfl) (by kernel_rfl) HM0.out ?_
  intro W34 hm35
  have HM36 := Lib.hid hm35
  clear hm35
  refine wT [0, 1, 2, 3] ?_
  refine wA [5, 6, 7] ?_
  have Cbx := Mem.cell HM36.out 0 rfl
  refine wS [8] ?_
  clear Cbx
  refine wD1h (hS := (covS_box 0 rfl covS_nil)) 4 [_, _] [_, _] Tryz.call36 (spof_d k hk) HM36 [] fun W38 HM40 => ?_
  have Cbx := Mem.cell HM40.out 0 rfl
  refine wT [9, 10, 11, 12, 13, 14, 15, 16] ?_
  clear Cbx
  refine wR 17 (run_gtrS (b := true) (decide_eq_true hgt.out) rfl rfl rfl) ?_
  refine wT [18] ?_
  refine wZ (wp_cond_true rfl (wp_seq (wQ ?_)))
  refine wp_ret (then_ret (bodyPost_ret (results_tmp rfl _ _ _) rfl ?_))
  rw [hbb.out, hbf.out]
  exact does_ret (Mem.toFd hFi.out (Mem.toHd hhxs.out hpxs.out (Mem.toDue (xs := xs) rfl (Mem.only (M := [_, _]) HM40.out [0, 0] rfl)))) rfl rfl
end Go.Proofs.YtcchkkdbagpgjaaGreat
