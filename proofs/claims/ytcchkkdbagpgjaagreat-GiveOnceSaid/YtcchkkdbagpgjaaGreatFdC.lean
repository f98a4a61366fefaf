/- The landed cursor: Next, Over. -/
import Derived.Test.YtcchkkdbagpgjaaGreatFdW
import Derived.Test.YtcchkkdbagpgjaaGreatPA
namespace Go.Proofs.YtcchkkdbagpgjaaGreat
open Go Go.RowKit Go.BigFrame
set_option maxHeartbeats 4000000 in
set_option maxRecDepth 100000 in
theorem fnext_d (c dv dl : Nat) (F : Fd) (hF : FdOk F) (S : Vt) (hS : VtOk S) (hl : S.b.length ≤ 3000) : DoesU Tryz.prog 87 #[.pointer (some ⟨c, 0, none⟩), .pointer (some ⟨dv, 0, none⟩)] [fdT c F, vtT dv dl S] (fun u => [pairT u (nextTl F S).1 (nextTl F S).2.1 (nextTl F S).2.2, fdT c (nextF F (keysV S F.part)).1, vtT dv dl S]) := by
 intro w H hp
 have HM0 := Lib.hid (mem_refl hp)
 clear hp
 obtain ⟨hFi', HM1'⟩ := Mem.fd HM0.out
 clear HM0
 have HM0 := Lib.hid HM1'
 clear HM1'
 have hFi := Lib.hid hFi'
 clear hFi'
 obtain ⟨ks, hks'⟩ : ∃ ks, keysV S F.part = ks := ⟨_, rfl⟩
 have hsk : ks.Pairwise ltK := by rw [← hks']; exact keysV_srt hS.srt _
 have hkp : ∀ k ∈ ks, 0 < k.size := by rw [← hks']; exact keysV_pos hS _
 have hkl : ks.length ≤ 3000 := by rw [← hks']; exact keysV_3 _ hl
 have hks := Lib.hid hks'
 clear hks'
 go_enter Tryz.func87, Tryz.ntmps87
 refine wp_seq (wN [(0, 3), (1, 1)] ?_)
 refine wpS_alloc (i := 0) (dd := 4) (z := prV ⟨#[]⟩ noB.k (.slice none 0 0)) (cs := (prC ⟨#[]⟩ noB.k (.slice none 0 0)).toArray) rfl (by rfl) rfl (by kernel_rfl) rfl HM0.out covS_nil rfl ?_
 rintro b3 W2 hm1 -
 have HM4 := Lib.hid hm1
 clear hm1
 simp only [Act.put, List.setIfInBounds_toArray, List.set_cons_succ, List.set_cons_zero]
 refine wT [1] ?_
 refine wZ (wp_seq (wp_seq (wQ ?_)))
 refine wp_cond_false rfl (wp_skip (then_normal (wp_seq ?_)))
 have HO5 := Mem.only (M := [_, _, _]) HM4.out [1, 0, 0] rfl
 obtain ⟨xs, hhxs', hpxs', HO5q⟩ := Mem.hd HO5
 clear HO5
 obtain ⟨p, m, HO5r⟩ := Mem.due HO5q
 clear HO5q
 have hhxs := Lib.hid hhxs'
 clear hhxs'
 have hpxs := Lib.hid hpxs'
 clear hpxs'
 have HM6 := Lib.hid HO5r
 clear HO5r
 refine wN [(0, 1), (1, 1), (2, 1), (3, 1), (4, 1), (5, 3), (6, 1)] ?_
 have Cbx := Mem.cell HM6.out 0 rfl
 refine wT [0, 1, 2, 3, 4] ?_
 clear Cbx
 refine wU2 5 [_, _, _] Tryz.call33 (vkeys_d dv dl S hS hl F.part) HM6 [3] fun u9 W8 hm7 => ?_
 rw [hks.out] at hm7
 obtain ⟨pk, ck, rfl, hm7q⟩ := Mem.texts rfl hm7
 clear hm7
 have HM10 := Lib.hid hm7q
 clear hm7q
 refine wT [6] ?_
 refine wZ (wp_seq ?_)
 rcases next_ways F ks with ⟨k, r, hpd', hnx'⟩ | ⟨k, hpd', hfi', hnx'⟩ | ⟨hpd', hfi', hnx'⟩
 ·have hpd := Lib.hid hpd'
  clear hpd'
  have hnx := Lib.hid hnx'
  clear hnx'
  have HS11 := Mem.toHd hhxs.out hpxs.out (Mem.toDue (xs := xs) rfl (Mem.only (M := [_, _, _, _, _]) HM10.out [2, 2, 0, 0, 0] rfl))
  have HM12 := Lib.hid HS11
  clear HS11
  refine wN [(0, 1), (1, 1), (2, 3), (3, 1), (4, 1), (5, 1), (6, 1), (7, 1)] (wT [0, 1] ?_)
  refine wD2 2 [_, _] [_, _, _, _] Tryz.call126 (tdue_d c F.part F.last F.due hF.srt hFi.out.len _ pk ck ks rowT_reads hsk hkl) HM12 [0, 0] fun W14 hm13 => ?_
  rw [show popV (popD ks F.due).1 = .tuple #[.string k, .bool true] from by rw [hpd.out]; rfl]
  rw [hpd.out] at hm13
  have HM15 := Lib.hid hm13
  clear hm13
  refine wT [3, 4, 5, 6, 7] ?_
  refine wZ (wp_seq (wp_seq (wQ ?_)))
  refine wp_cond_false rfl (wp_skip (then_normal (wp_seq (wp_seq (wQ ?_)))))
  refine wp_cond_false rfl (wp_skip (then_normal (wp_seq (wN [(0, 1), (1, 1), (2, 1), (3, 3), (4, 1), (5, 3), (6, 1)] (wT [0, 1, 2] ?_)))))
  refine wU2 3 [_, _, _] Tryz.call35 (vbag_d dv dl S hS k) HM15 [2] fun u18 W17 hm16 => ?_
  obtain ⟨pb, cb, rfl, hm16q⟩ := Mem.bag rfl hm16
  clear hm16
  have HM19 := Lib.hid hm16q
  clear hm16q
  refine wR 4 (v := prV k (bagV S k).k (.slice pb (bagV S k).v.length cb)) (by kernel_rfl) ?_
  refine wXkh (hone := (prC_one _ _ _)) 5 [_, _, _, _] (prC k (bagV S k).k (.slice pb (bagV S k).v.length cb)) HM19 4 fun W21 HM22 => ?_
  refine wT [6] ?_
  refine wZ (wp_ret ?_)
  refine ret_cell_tmp rfl HM22.out 0 rfl rfl Tryz.underlying116 rfl (by kernel_rfl) rfl rfl ?_
  have hFi2 := hFi.out.next hkp hnx.out
  rw [hks.out, nextTl_some (by rw [hks.out, hnx.out]), hnx.out]
  exact doesU_ret (post := fun u => [pairT u k (bagV S k) true, fdT c (⟨F.part, F.any, F.last, r⟩ : Fd), vtT dv dl S]) (Mem.addEx (pb, cb) (Mem.addPr rfl (Mem.swap2 (Mem.toFd (F := (⟨F.part, F.any, F.last, r⟩ : Fd)) hFi2 (Mem.only (M := [_, _, _]) HM22.out [3, 1, 1] rfl))))) rfl
 ·have hfk : Hid (ks[pastN ks F.last]? = some k) := Lib.hid (by rw [← find_new hFi.out.no hsk hkp]; exact hfi')
  clear hfi'
  have hpd := Lib.hid hpd'
  clear hpd'
  have hnx := Lib.hid hnx'
  clear hnx'
  have HS23 := Mem.toHd hhxs.out hpxs.out (Mem.toDue (xs := xs) rfl (Mem.only (M := [_, _, _, _, _]) HM10.out [2, 2, 0, 0, 0] rfl))
  have HM24 := Lib.hid HS23
  clear HS23
  refine wN [(0, 1), (1, 1), (2, 3), (3, 1), (4, 1), (5, 1), (6, 1), (7, 1)] (wT [0, 1] ?_)
  refine wD2 2 [_, _] [_, _, _, _] Tryz.call126 (tdue_d c F.part F.last F.due hF.srt hFi.out.len _ pk ck ks rowT_reads hsk hkl) HM24 [0, 0] fun W26 hm25 => ?_
  rw [show popV (popD ks F.due).1 = .tuple #[.string ⟨#[]⟩, .bool false] from by rw [hpd.out]; rfl]
  rw [hpd.out] at hm25
  have HM27 := Lib.hid hm25
  clear hm25
  refine wT [3, 4, 5, 6, 7] ?_
  refine wZ (wp_seq (wp_seq (wQ ?_)))
  refine wp_cond_true rfl ?_
  have HO28 := Mem.only (M := [_, _, _, _]) HM27.out [0, 0, 0, 0] rfl
  obtain ⟨ys, hhys', hpys', HO28q⟩ := Mem.hd HO28
  clear HO28
  obtain ⟨p2, m2, HO28r⟩ := Mem.due HO28q
  clear HO28q
  have hhys := Lib.hid hhys'
  clear hhys'
  have hpys := Lib.hid hpys'
  clear hpys'
  have HM29 := Lib.hid HO28r
  clear HO28r
  refine wN [(0, 1), (1, 1), (2, 3), (3, 1), (4, 1), (5, 1), (6, 1), (7, 1)] (wT [0, 1] ?_)
  refine wD2h 2 [_, _, _] [_, _, _, _, _] Tryz.call127 (tahead_s c F.part F.last p2 _ m2 _ pk ck ks rowT_reads hsk hkl k hfk.out) HM29 [0, 1] fun W31 HM32 => ?_
  refine wT [3, 4, 5, 6, 7] ?_
  refine wZ (wp_seq (wp_seq ?_))
  have HS33 := Mem.toHd hhys.out hpys.out (Mem.toDue (xs := ys) rfl (Mem.only (M := [_, _, _, _, _]) HM32.out [0, 1, 0, 0, 0] rfl))
  have HM34 := Lib.hid HS33
  clear HS33
  refine wQ ?_
  refine wp_cond_false rfl (wp_skip (then_normal (wp_seq (wN [(0, 1), (1, 1), (2, 1), (3, 3), (4, 1), (5, 3), (6, 1)] (wT [0, 1, 2] ?_)))))
  refine wU2 3 [_, _, _] Tryz.call35 (vbag_d dv dl S hS k) HM34 [2] fun u37 W36 hm35 => ?_
  obtain ⟨pb, cb, rfl, hm35q⟩ := Mem.bag rfl hm35
  clear hm35
  have HM38 := Lib.hid hm35q
  clear hm35q
  refine wR 4 (v := prV k (bagV S k).k (.slice pb (bagV S k).v.length cb)) (by kernel_rfl) ?_
  refine wXkh (hone := (prC_one _ _ _)) 5 [_, _, _, _] (prC k (bagV S k).k (.slice pb (bagV S k).v.length cb)) HM38 4 fun W40 HM41 => ?_
  refine wT [6] ?_
  refine wZ (wp_ret ?_)
  refine ret_cell_tmp rfl HM41.out 0 rfl rfl Tryz.underlying116 rfl (by kernel_rfl) rfl rfl ?_
  have hFi2 := hFi.out.next hkp hnx.out
  rw [hks.out, nextTl_some (by rw [hks.out, hnx.out]), hnx.out]
  exact doesU_ret (post := fun u => [pairT u k (bagV S k) true, fdT c (⟨F.part, true, k, []⟩ : Fd), vtT dv dl S]) (Mem.addEx (pb, cb) (Mem.addPr rfl (Mem.swap2 (Mem.toFd (F := (⟨F.part, true, k, []⟩ : Fd)) hFi2 (Mem.only (M := [_, _, _]) HM41.out [3, 1, 1] rfl))))) rfl
 ·have hfk : Hid (ks[pastN ks F.last]? = none) := Lib.hid (by rw [← find_new hFi.out.no hsk hkp]; exact hfi')
  clear hfi'
  have hpd := Lib.hid hpd'
  clear hpd'
  have hnx := Lib.hid hnx'
  clear hnx'
  have HS42 := Mem.toHd hhxs.out hpxs.out (Mem.toDue (xs := xs) rfl (Mem.only (M := [_, _, _, _, _]) HM10.out [2, 2, 0, 0, 0] rfl))
  have HM43 := Lib.hid HS42
  clear HS42
  refine wN [(0, 1), (1, 1), (2, 3), (3, 1), (4, 1), (5, 1), (6, 1), (7, 1)] (wT [0, 1] ?_)
  refine wD2 2 [_, _] [_, _, _, _] Tryz.call126 (tdue_d c F.part F.last F.due hF.srt hFi.out.len _ pk ck ks rowT_reads hsk hkl) HM43 [0, 0] fun W45 hm44 => ?_
  rw [show popV (popD ks F.due).1 = .tuple #[.string ⟨#[]⟩, .bool false] from by rw [hpd.out]; rfl]
  rw [hpd.out] at hm44
  have HM46 := Lib.hid hm44
  clear hm44
  refine wT [3, 4, 5, 6, 7] ?_
  refine wZ (wp_seq (wp_seq (wQ ?_)))
  refine wp_cond_true rfl ?_
  have HO47 := Mem.only (M := [_, _, _, _]) HM46.out [0, 0, 0, 0] rfl
  obtain ⟨ys, hhys', hpys', HO47q⟩ := Mem.hd HO47
  clear HO47
  obtain ⟨p2, m2, HO47r⟩ := Mem.due HO47q
  clear HO47q
  have hhys := Lib.hid hhys'
  clear hhys'
  have hpys := Lib.hid hpys'
  clear hpys'
  have HM48 := Lib.hid HO47r
  clear HO47r
  refine wN [(0, 1), (1, 1), (2, 3), (3, 1), (4, 1), (5, 1), (6, 1), (7, 1)] (wT [0, 1] ?_)
  refine wD2h 2 [_, _, _] [_, _, _, _, _] Tryz.call127 (tahead_n c F.part F.last p2 _ m2 _ pk ck ks rowT_reads hsk hkl hfk.out) HM48 [0, 1] fun W50 HM51 => ?_
  refine wT [3, 4, 5, 6, 7] ?_
  refine wZ (wp_seq (wp_seq ?_))
  have HS52 := Mem.toHd hhys.out hpys.out (Mem.toDue (xs := ys) rfl (Mem.only (M := [_, _, _, _, _]) HM51.out [0, 1, 0, 0, 0] rfl))
  have HM53 := Lib.hid HS52
  clear HS52
  refine wQ ?_
  refine wp_cond_true rfl (wp_seq (wN [(0, 1), (1, 3), (2, 1)] ?_))
  refine wR 0 (v := prV ⟨#[]⟩ noB.k (.slice none 0 0)) (by kernel_rfl) ?_
  refine wXkh (hone := (prC_one _ _ _)) 1 [_, _, _] (prC ⟨#[]⟩ noB.k (Value.slice none 0 0)) HM53 3 fun W55 HM56 => ?_
  refine wT [2] ?_
  refine wZ (wp_ret (then_ret ?_))
  refine ret_cell_tmp rfl HM56.out 0 rfl rfl Tryz.underlying116 rfl (by kernel_rfl) rfl rfl ?_
  have hFi2 := hFi.out.next hkp hnx.out
  rw [hks.out, nextTl_none (by rw [hks.out, hnx.out]), hnx.out]
  exact doesU_ret (post := fun u => [pairT u ⟨#[]⟩ noB false, fdT c (⟨F.part, F.any, F.last, []⟩ : Fd), vtT dv dl S]) (Mem.addEx (none, 0) (Mem.addPr rfl (Mem.nilRow elemV (Mem.toFd (F := (⟨F.part, F.any, F.last, []⟩ : Fd)) hFi2 (Mem.only (M := [_, _]) HM56.out [1, 2] rfl))))) rfl
set_option maxHeartbeats 4000000 in
set_option maxRecDepth 100000 in
theorem fover_d (c dv dl : Nat) (F : Fd) (_hF : FdOk F) (S : Vt) (hS : VtOk S) (hl : S.b.length ≤ 3000) : Does Tryz.prog 98 #[.pointer (some ⟨c, 0, none⟩), .pointer (some ⟨dv, 0, none⟩)] [fdT c F, vtT dv dl S] (.bool (overF F (keysV S F.part))) [fdT c F, vtT dv dl S] := by
 intro w H hp
 have HM0 := Lib.hid (mem_refl hp)
 clear hp
 obtain ⟨hFi', HM1'⟩ := Mem.fd HM0.out
 clear HM0
 have HM0 := Lib.hid HM1'
 clear HM1'
 have hFi := Lib.hid hFi'
 clear hFi'
 obtain ⟨ks, hks'⟩ : ∃ ks, keysV S F.part = ks := ⟨_, rfl⟩
 have hsk : ks.Pairwise ltK := by rw [← hks']; exact keysV_srt hS.srt _
 have hkp : ∀ k ∈ ks, 0 < k.size := by rw [← hks']; exact keysV_pos hS _
 have hkl : ks.length ≤ 3000 := by rw [← hks']; exact keysV_3 _ hl
 have hks := Lib.hid hks'
 clear hks'
 go_enter Tryz.func98, Tryz.ntmps98
 refine wp_seq (wQ ?_)
 refine wp_seq (wp_seq (wQ ?_))
 refine wp_cond_false rfl (wp_skip (then_normal (wp_seq ?_)))
 have HO1 := Mem.only (M := [_, _]) HM0.out [0, 0] rfl
 obtain ⟨xs, hhxs', hpxs', HO1q⟩ := Mem.hd HO1
 clear HO1
 obtain ⟨p, m, HO1r⟩ := Mem.due HO1q
 clear HO1q
 have hhxs := Lib.hid hhxs'
 clear hhxs'
 have hpxs := Lib.hid hpxs'
 clear hpxs'
 have HM2 := Lib.hid HO1r
 clear HO1r
 refine wN [(0, 1), (1, 1), (2, 1), (3, 1), (4, 1), (5, 3), (6, 3), (7, 3)] ?_
 have Cbx := Mem.cell HM2.out 0 rfl
 refine wT [0, 1, 2, 3, 4] ?_
 clear Cbx
 refine wU2 5 [_, _] Tryz.call33 (vkeys_d dv dl S hS hl F.part) HM2 [2] fun u5 W4 hm3 => ?_
 rw [hks.out] at hm3
 obtain ⟨pk, ck, rfl, hm3q⟩ := Mem.texts rfl hm3
 clear hm3
 have HM6 := Lib.hid hm3q
 clear hm3q
 refine wpS_alloc (i := 6) (dd := 5) (z := .slice none 0 0) (cs := #[.slice none 0 0]) rfl (by rfl) rfl (by kernel_rfl) rfl HM6.out covS_nil rfl ?_
 rintro b9 W8 hm7 -
 have HM10 := Lib.hid hm7
 clear hm7
 simp only [Act.put, List.setIfInBounds_toArray, List.set_cons_succ, List.set_cons_zero]
 refine wYh 7 _ [_, _, _, _] [.slice pk ks.length ck] HM10 0 fun W12 HM13 => ?_
 refine wZ (wp_seq (wN [(0, 0), (1, 1)] ?_))
 refine wpS_funcC1 (i := 0) (d := some 19) rfl (by rfl) rfl rfl rfl ?_
 simp only [Act.put, List.setIfInBounds_toArray, List.set_cons_succ, List.set_cons_zero]
 refine wT [1] ?_
 refine wZ (wp_seq ?_)
 have hpl := pastN_le (k := F.last) hsk
 by_cases hpe : pastN ks F.last = ks.length
 ·obtain ⟨z, hz'⟩ := bool_letter (xs.any fun k => hasL ks k)
  have hov : Hid (overF F ks = !z) := Lib.hid (by rw [over_ways hFi.out.no hsk hkp hpxs.out, decide_eq_true hpe, hz', Bool.true_and])
  have hml : Hid (tlV pk ks.length ck (pastN ks F.last) = .slice (if ck = ks.length then pk else pk.map fun a => a.add (ks.length * elemS.k)) 0 (ck - ks.length)) := Lib.hid (by rw [hpe]; unfold tlV; rw [Nat.sub_self])
  clear hpe hpl
  have hz := Lib.hid hz'
  clear hz'
  refine wN [(0, 1), (1, 1), (2, 3), (3, 1), (4, 1), (5, 1), (6, 1), (7, 1), (8, 1), (9, 1), (10, 1), (11, 3), (12, 1), (13, 1), (14, 1)] ?_
  have Cb5 := Mem.cell HM13.out 0 rfl
  refine wT [0, 1] ?_
  clear Cb5
  refine wD2 2 [_, _, _] [_, _, _, _, _] Tryz.call132 (ahead_d c F.part F.last p _ m _ pk ck ks rowT_reads hsk hkl) HM13 [3, 1] fun W15 hm14 => ?_
  rw [hml.out]
  have HM16 := Lib.hid hm14
  clear hm14
  have Cbx := Mem.cell HM16.out 0 rfl
  refine wT [3, 4, 5, 6, 7, 8, 9, 10] ?_
  clear Cbx
  refine wD2 11 [_, _] [_, _, _, _, _] Tryz.call133 (dcontf_d _ _ xs (fun W H h => (rowT_reads W H h).1) (by rw [hpxs.out.length_eq]; exact Nat.le_trans hFi.out.len (by decide)) b9 _ _ ks (fun W H h => (rowT_reads W H h).1) hsk hkl) HM16 [4, 2, 1] fun W18 hm17 => ?_
  rw [hz.out]
  have HM19 := Lib.hid hm17
  clear hm17
  refine wT [12, 13, 14] ?_
  refine wZ (wp_ret (bodyPost_ret (results_tmp rfl _ _ _) rfl ?_))
  rw [hks.out, hov.out]
  exact does_ret (Mem.toFd hFi.out (Mem.toHd hhxs.out hpxs.out (Mem.toDue (xs := xs) rfl (Mem.only (M := [_, _, _]) HM19.out [3, 0, 2] rfl)))) rfl rfl
 ·have hov : Hid (overF F ks = false) := Lib.hid (by rw [over_ways hFi.out.no hsk hkp hpxs.out, decide_eq_false hpe, Bool.false_and])
  obtain ⟨q, hq'⟩ : ∃ q, ks.length - pastN ks F.last = q + 1 := ⟨ks.length - pastN ks F.last - 1, by omega⟩
  have hml : Hid (tlV pk ks.length ck (pastN ks F.last) = .slice (if ck = pastN ks F.last then pk else pk.map fun a => a.add (pastN ks F.last * elemS.k)) (q + 1) (ck - pastN ks F.last)) := Lib.hid (by unfold tlV; rw [hq'])
  have g1 : (((((q + 1 : Nat)) : Int)) == (0 : Int)) = false := beq_eq_false_iff_ne.2 (by omega)
  have g1' : (((q : Int) + 1) == (0 : Int)) = false := beq_eq_false_iff_ne.2 (by omega)
  clear hpe hpl hq'
  refine wN [(0, 1), (1, 1), (2, 3), (3, 1), (4, 1), (5, 1), (6, 1), (7, 1), (8, 1), (9, 1), (10, 1), (11, 3), (12, 1), (13, 1), (14, 1)] ?_
  have Cb5 := Mem.cell HM13.out 0 rfl
  refine wT [0, 1] ?_
  clear Cb5
  refine wD2 2 [_, _, _] [_, _, _, _, _] Tryz.call132 (ahead_d c F.part F.last p _ m _ pk ck ks rowT_reads hsk hkl) HM13 [3, 1] fun W21 hm20 => ?_
  rw [hml.out]
  have HM22 := Lib.hid hm20
  clear hm20
  have Cbx := Mem.cell HM22.out 0 rfl
  refine wT [3, 4, 5, 6, 7, 8, 9, 10] ?_
  clear Cbx
  refine wK 11 ?_
  refine wT [12, 13, 14] ?_
  refine wZ (wp_ret (bodyPost_ret (results_tmp rfl _ _ _) rfl ?_))
  rw [hks.out, hov.out]
  exact does_ret (Mem.toFd hFi.out (Mem.toHd hhxs.out hpxs.out (Mem.toDue (xs := xs) rfl (Mem.only (M := [_, _, _]) HM22.out [0, 3, 2] rfl)))) rfl rfl
end Go.Proofs.YtcchkkdbagpgjaaGreat
