/- The landed vault: Put, Merge, Drop. -/
import Derived.Test.YtcchkkdbagpgjaaGreatVtD
import Derived.Test.YtcchkkdbagpgjaaGreatPA
namespace Go.Proofs.YtcchkkdbagpgjaaGreat
open Go Go.RowKit Go.BigFrame
theorem putBR_len {b x : Bg} {known : Nat → Int} {d : En} {t : ByteArray} {e : Int} (h : putBR b known d t = (x, e)) : x.v.length ≤ 32 := by
 unfold putBR at h
 split at h
 ·split at h
  ·rename_i hl
   rw [← (Prod.mk.inj h).1]
   exact hl
  ·rw [← (Prod.mk.inj h).1]
   exact Nat.zero_le _
 ·rw [← (Prod.mk.inj h).1]
  exact Nat.zero_le _
theorem vwrite_e {A : At} {dv dl : Nat} {X Y : Vl2} {d : Dd} {vx rx : Value} {e : Int} (hX : Kept X) (hA : DdR A d vx rx) (h : writeV X d = (Y, e)) : Does Tryz.prog 65 #[.pointer (some ⟨dv, 0, none⟩), ddV d vx rx] [vtT dv dl X.1, lgT dl X.2, A] (.int .i64 e) [vtT dv dl Y.1, lgT dl Y.2] := by
 have h1 := vwrite_d A dv dl X hX d vx rx hA
 rw [h] at h1
 exact h1
theorem writeV_no {X Y : Vl2} {d : Dd} {e : Int} (h : writeV X d = (Y, e)) (he : e ≠ 0) : Y = X := by
 unfold writeV at h
 split at h
 ·exact absurd (Prod.mk.inj h).2.symm he
 ·exact (Prod.mk.inj h).1.symm
section
variable {X Y : Vl2} {node : Int} {k : ByteArray} {known : Nat → Int} {t : ByteArray} {x : Bg} {e : Int}
theorem putV_1 (h : ¬ (nodeE node = true ∧ keyB k = true)) : putV X node k known t = (X, (0, 0), 1) := by
 unfold putV
 rw [if_neg h]
theorem putV_6 (h : nodeE node = true ∧ keyB k = true) (h2 : ¬ X.1.dots < 1000000) : putV X node k known t = (X, (0, 0), 6) := by
 unfold putV
 rw [if_pos h, if_neg h2]
theorem putV_5 (h : nodeE node = true ∧ keyB k = true) (h2 : X.1.dots < 1000000) (h3 : fullV X.1 k = true) : putV X node k known t = (X, (0, 0), 5) := by
 unfold putV
 rw [if_pos h, if_pos h2, if_pos h3]
theorem putV_b (h : nodeE node = true ∧ keyB k = true) (h2 : X.1.dots < 1000000) (h3 : fullV X.1 k = false) (h4 : putBR (bagV X.1 k) known (node, X.1.dots + 1) t = (x, e)) (h5 : e ≠ 0) : putV X node k known t = (X, (0, 0), e) := by
 unfold putV
 rw [if_pos h, if_pos h2, h3, if_neg Bool.false_ne_true, h4, if_neg h5]
theorem putV_w (h : nodeE node = true ∧ keyB k = true) (h2 : X.1.dots < 1000000) (h3 : fullV X.1 k = false) (h4 : putBR (bagV X.1 k) known (node, X.1.dots + 1) t = (x, 0)) (h5 : writeV X (kbD (X.1.dots + 1) k x) = (Y, e)) (h6 : e ≠ 0) : putV X node k known t = (X, (0, 0), e) := by
 unfold putV
 rw [if_pos h, if_pos h2, h3, if_neg Bool.false_ne_true, h4, if_pos rfl, h5, if_neg h6]
theorem putV_0 (h : nodeE node = true ∧ keyB k = true) (h2 : X.1.dots < 1000000) (h3 : fullV X.1 k = false) (h4 : putBR (bagV X.1 k) known (node, X.1.dots + 1) t = (x, 0)) (h5 : writeV X (kbD (X.1.dots + 1) k x) = (Y, 0)) : putV X node k known t = (Y, (node, X.1.dots + 1), 0) := by
 unfold putV
 rw [if_pos h, if_pos h2, h3, if_neg Bool.false_ne_true, h4, if_pos rfl, h5, if_pos rfl]
end
set_option maxHeartbeats 4000000 in
set_option maxRecDepth 100000 in
theorem vput_d (dv dl : Nat) (X : Vl2) (hX : Kept X) (node : Int) (k : ByteArray) (known : Nat → Int) (t : ByteArray) : Does Tryz.prog 27 #[.pointer (some ⟨dv, 0, none⟩), .int .i64 node, .string k, vV known, .string t] [vtT dv dl X.1, lgT dl X.2] (.tuple #[dV (putV X node k known t).2.1, .int .i64 (putV X node k known t).2.2]) [vtT dv dl (putV X node k known t).1.1, lgT dl (putV X node k known t).1.2] := by
 intro w H hp
 have HM0 := Lib.hid (mem_refl hp)
 clear hp
 obtain ⟨s, hs', HM1⟩ := Mem.vt HM0.out
 clear HM0
 have HM0 := Lib.hid HM1
 clear HM1
 have hs := Lib.hid hs'
 clear hs'
 go_enter Tryz.func27, Tryz.ntmps27
 refine wp_seq (wN [(0, 3), (1, 3), (2, 1)] ?_)
 refine wBh 0 HM0 fun b3 W2 HM4 => ?_
 refine wpS_alloc (i := 1) (dd := 10) (z := .agg #[.int .i64 0, .int .i64 0]) (cs := #[.int .i64 0, .int .i64 0]) rfl (by rfl) rfl (by kernel_rfl) rfl HM4.out covS_nil rfl ?_
 rintro b7 W6 hm5 -
 have HM8 := Lib.hid hm5
 clear hm5
 simp only [Act.put, List.setIfInBounds_toArray, List.set_cons_succ, List.set_cons_zero]
 refine wT [2] ?_
 refine wZ (wp_seq (wp_seq ?_))
 rcases (show decide (0 ≤ node ∧ node < 8) = false ∨ (decide (0 ≤ node ∧ node < 8) = true ∧ keyB k = false) ∨ (decide (0 ≤ node ∧ node < 8) = true ∧ keyB k = true) from by cases decide (0 ≤ node ∧ node < 8) <;> cases keyB k <;> simp) with hnb' | ⟨hnb', hkb'⟩ | ⟨hnb', hkb'⟩
 ·have hpv : Hid (putV X node k known t = (X, (0, 0), 1)) := Lib.hid (putV_1 (by unfold nodeE; rw [hnb']; simp))
  have hnb := Lib.hid hnb'
  clear hnb'
  refine wN [(0, 1), (1, 1), (2, 1), (3, 1), (4, 3), (5, 1), (6, 1), (7, 1), (8, 1), (9, 3), (10, 1), (11, 1)] (wT [0, 1, 2, 3] ?_)
  refine wpS_does1 (i := 4) (d := some 19) (rem := [_, _, _, _, _, _]) (out := [_, _, _, _, _, _]) rfl (by rfl) rfl Tryz.call60 (vnode_d node) rfl HM8.out [] rfl covS_nil rfl rfl ?_
  rintro W10 hm9 -
  rw [hnb.out]
  have HM11 := Lib.hid hm9
  clear hm9
  simp only [Act.put, List.setIfInBounds_toArray, List.set_cons_succ, List.set_cons_zero]
  refine wT [5, 6, 7, 8] ?_
  refine wK 9 ?_
  refine wT [10, 11] ?_
  refine wZ (wp_cond_true rfl (wp_seq (wN [(0, 1), (1, 3), (2, 1)] (wT [0] ?_))))
  refine wpS_storeA (i := 1) (L2 := [_, _, _, _, _]) (cs' := [_, _]) rfl (by rfl) rfl rfl rfl (by kernel_rfl) (by rfl) HM11.out 0 rfl rfl rfl rfl covS_nil rfl ?_
  rintro W13 hm12 -
  have HM14 := Lib.hid hm12
  clear hm12
  refine wT [2] ?_
  refine wZ (wp_ret (then_ret ?_))
  refine ret_cell_tmp rfl HM14.out 0 rfl rfl Tryz.underlying72 rfl (by kernel_rfl) rfl rfl ?_
  rw [hpv.out]
  exact does_ret (Mem.toVt s hs.out (Mem.only (M := [_, _, _, _]) HM14.out [2, 2, 2, 2] rfl)) rfl rfl
 ·have hpv : Hid (putV X node k known t = (X, (0, 0), 1)) := Lib.hid (putV_1 (by rw [hkb']; simp))
  have hnb := Lib.hid hnb'
  clear hnb'
  have hkb := Lib.hid hkb'
  clear hkb'
  refine wN [(0, 1), (1, 1), (2, 1), (3, 1), (4, 3), (5, 1), (6, 1), (7, 1), (8, 1), (9, 3), (10, 1), (11, 1)] (wT [0, 1, 2, 3] ?_)
  refine wpS_does1 (i := 4) (d := some 19) (rem := [_, _, _, _, _, _]) (out := [_, _, _, _, _, _]) rfl (by rfl) rfl Tryz.call60 (vnode_d node) rfl HM8.out [] rfl covS_nil rfl rfl ?_
  rintro W16 hm15 -
  rw [hnb.out]
  have HM17 := Lib.hid hm15
  clear hm15
  simp only [Act.put, List.setIfInBounds_toArray, List.set_cons_succ, List.set_cons_zero]
  refine wT [5, 6, 7, 8] ?_
  refine wpS_does1 (i := 9) (d := some 24) (rem := [_, _, _, _, _, _]) (out := [_, _, _, _, _, _]) rfl (by rfl) rfl Tryz.call61 (spmay_d k) rfl HM17.out [] rfl covS_nil rfl rfl ?_
  rintro W19 hm18 -
  rw [hkb.out]
  have HM20 := Lib.hid hm18
  clear hm18
  simp only [Act.put, List.setIfInBounds_toArray, List.set_cons_succ, List.set_cons_zero]
  refine wT [10, 11] ?_
  refine wZ (wp_cond_true rfl (wp_seq (wN [(0, 1), (1, 3), (2, 1)] (wT [0] ?_))))
  refine wpS_storeA (i := 1) (L2 := [_, _, _, _, _]) (cs' := [_, _]) rfl (by rfl) rfl rfl rfl (by kernel_rfl) (by rfl) HM20.out 0 rfl rfl rfl rfl covS_nil rfl ?_
  rintro W22 hm21 -
  have HM23 := Lib.hid hm21
  clear hm21
  refine wT [2] ?_
  refine wZ (wp_ret (then_ret ?_))
  refine ret_cell_tmp rfl HM23.out 0 rfl rfl Tryz.underlying72 rfl (by kernel_rfl) rfl rfl ?_
  rw [hpv.out]
  exact does_ret (Mem.toVt s hs.out (Mem.only (M := [_, _, _, _]) HM23.out [2, 2, 2, 2] rfl)) rfl rfl
 ·have hk := Lib.hid hkb'
  have hnk : Hid (nodeE node = true ∧ keyB k = true) := Lib.hid ⟨hnb', hkb'⟩
  have hnb := Lib.hid hnb'
  clear hnb'
  have hkb := Lib.hid hkb'
  clear hkb'
  refine wN [(0, 1), (1, 1), (2, 1), (3, 1), (4, 3), (5, 1), (6, 1), (7, 1), (8, 1), (9, 3), (10, 1), (11, 1)] (wT [0, 1, 2, 3] ?_)
  refine wpS_does1 (i := 4) (d := some 19) (rem := [_, _, _, _, _, _]) (out := [_, _, _, _, _, _]) rfl (by rfl) rfl Tryz.call60 (vnode_d node) rfl HM8.out [] rfl covS_nil rfl rfl ?_
  rintro W25 hm24 -
  rw [hnb.out]
  have HM26 := Lib.hid hm24
  clear hm24
  simp only [Act.put, List.setIfInBounds_toArray, List.set_cons_succ, List.set_cons_zero]
  refine wT [5, 6, 7, 8] ?_
  refine wpS_does1 (i := 9) (d := some 24) (rem := [_, _, _, _, _, _]) (out := [_, _, _, _, _, _]) rfl (by rfl) rfl Tryz.call61 (spmay_d k) rfl HM26.out [] rfl covS_nil rfl rfl ?_
  rintro W28 hm27 -
  rw [hkb.out]
  have HM29 := Lib.hid hm27
  clear hm27
  simp only [Act.put, List.setIfInBounds_toArray, List.set_cons_succ, List.set_cons_zero]
  refine wT [10, 11] ?_
  refine wZ (wp_cond_false rfl (wp_skip (then_normal (wp_seq (wp_seq ?_)))))
  have hdd := hX.ok.dots
  by_cases hd1 : X.1.dots < 1000000
  ·have g1 : (X.1.dots == 1000000) = false := beq_eq_false_iff_ne.2 (by omega)
   refine wN [(0, 1), (1, 1), (2, 1), (3, 1), (4, 1)] (wT [0, 1, 2] ?_)
   refine wM 3 (.int .i64 X.1.dots) (HM29.out.part1 2 rfl vtC_dots) Tryz.underlying3 ?_
   refine wT [4] ?_
   refine wZ (wp_cond_false rfl (wp_skip (then_normal (wp_seq (wp_seq ?_)))))
   have hl3 : Hid (X.1.b.length ≤ 3000) := Lib.hid (Nat.le_trans hX.len (Nat.le_trans hX.lg.len hX.lg.room))
   cases hfl' : fullV X.1 k
   ·have hfn : Hid ((!fullV X.1 k) = true) := Lib.hid (by rw [hfl']; rfl)
    have hfl := Lib.hid hfl'
    clear hfl'
    refine wN [(0, 1), (1, 1), (2, 3), (3, 1)] (wT [0, 1] ?_)
    refine wpS_does2 (i := 2) (d := some 36) (rem := [_, _, _, _]) (out := [_, _, _, _, _, _]) rfl (by rfl) rfl Tryz.call62 (vroom_d dv dl X.1 hX.ok s hs.out hl3.out k hk.out) rfl rfl HM29.out [2, 2] rfl covS_nil rfl rfl ?_
    rintro W31 hm30 -
    rw [hfn.out]
    have HM32 := Lib.hid hm30
    clear hm30
    simp only [Act.put, List.setIfInBounds_toArray, List.set_cons_succ, List.set_cons_zero]
    refine wT [3] ?_
    refine wZ (wp_cond_false rfl (wp_skip (then_normal (wp_seq (wN [(0, 1), (1, 1), (2, 1), (3, 1), (4, 1), (5, 1), (6, 1), (7, 3), (8, 3)] (wT [0, 1, 2, 3] ?_))))))
    refine wM 4 (.int .i64 X.1.dots) (HM32.out.part1 0 rfl vtC_dots) Tryz.underlying3 ?_
    refine wT [5, 6] ?_
    refine wpS_alloc (i := 7) (dd := 12) (z := .agg #[.int .i64 0, .int .i64 0]) (cs := #[.int .i64 0, .int .i64 0]) rfl (by rfl) rfl (by kernel_rfl) rfl HM32.out covS_nil rfl ?_
    rintro b35 W34 hm33 -
    have HM36 := Lib.hid hm33
    clear hm33
    simp only [Act.put, List.setIfInBounds_toArray, List.set_cons_succ, List.set_cons_zero]
    refine wpS_storeA (i := 8) (L2 := [_, _, _, _, _, _]) (cs' := [_, _]) rfl (by rfl) rfl rfl rfl (by kernel_rfl) (by rfl) HM36.out 0 rfl rfl rfl rfl covS_nil rfl ?_
    rintro W38 hm37 -
    have HM39 := Lib.hid hm37
    clear hm37
    refine wZ (wp_seq ?_)
    obtain ⟨x, e, hx'⟩ : ∃ a b, putBR (ofV s k).b known (node, X.1.dots + 1) t = (a, b) := ⟨_, _, rfl⟩
    have hbo := (hs.out.ofV hk.out).1
    have hxb : Hid (putBR (bagV X.1 k) known (node, X.1.dots + 1) t = (x, e)) := Lib.hid (by rw [hbo]; exact hx')
    have hx := Lib.hid hx'
    clear hx'
    have hrd := Lib.hid (hs.out.ofV hk.out).2.2.1
    have hlo : Hid ((ofV s k).b.v.length ≤ 4398046510976) := Lib.hid (by rw [← hbo]; exact Nat.le_trans (bagV_len hX.ok k) (by decide))
    clear hbo
    refine wp_cut_F [13, 14, 46, 47, 48, 49, 50, 51, 52, 53, 54, 55] (fun vs W' => ∃ (bb : Nat) (pw : Option Addr) (cw : Nat), vs 13 = .pointer (some ⟨bb, 0, none⟩) ∧ vs 14 = .int .i64 e ∧ Mem [boxT bb (.cells (bgC x.k (.slice pw x.v.length cw)).toArray 41 (0, 0)), rowT elemV (.slice pw x.v.length cw) x.v, boxT b35 (.cells #[.int .i64 node, .int .i64 (X.1.dots + 1)] 72 (0, 0)), boxT b7 (.cells #[.int .i64 0, .int .i64 0] 72 (0, 0)), boxT dv (.cells (vtC dl X.1.inc X.1.ring (.slice s.rp X.1.ring.p.2.2.length s.rc) X.1.has X.1.dots (fun i => some (s.bk i))).toArray 92 (0, 0)), mapsT s.bk s.ms, s.G, lgT dl X.2] H w W') ?_ ?_
    ·refine wp_region_taken [] (fun k => k ∈ ([b3, b35] : List Nat)) (by kernel_rfl) rfl rfl ?_
     have hm40 := HM39.out.drew
     have HM41 := Lib.hid hm40
     clear hm40
     refine wpT_takeS (i := 0) (by kernel_rfl) (by kernel_rfl) ?_
     refine wS [0] ?_
     refine wpS_nil ?_
     refine wpT_takeS (i := 1) (by kernel_rfl) (by kernel_rfl) ?_
     refine wS [1] ?_
     refine wpS_nil ?_
     refine wpT_takeS (i := 3) (by kernel_rfl) (by kernel_rfl) ?_
     refine wL2 3 (vcC (known)) (HM41.out.cells0 4 rfl) Tryz.underlying38 ?_
     refine wpS_nil ?_
     refine wpT_takeS (i := 4) (by kernel_rfl) (by kernel_rfl) ?_
     have Cb12 := Mem.cell HM41.out 0 rfl
     refine wS [4] ?_
     clear Cb12
     refine wpS_nil ?_
     refine wpT_takeS (i := 5) (by kernel_rfl) (by kernel_rfl) ?_
     refine wS [5] ?_
     refine wpS_nil ?_
     refine wpT_ready 2 [10] (by kernel_rfl) (allT_cons ?_ (allT_cons ?_ allT_nil))
     ·refine opT_S (by kernel_rfl) ?_
      refine wpS_does2 (i := 2) (d := some 49) (rem := [_, _, _, _, _]) (out := [_, _, _, _, _, _, _]) rfl (by rfl) rfl Tryz.call64 (vof_d dv dl X.1 s k hk.out) rfl rfl HM41.out [1, 1] rfl (covS_box 2 rfl (covS_box 0 rfl covS_nil)) rfl rfl ?_
      rintro W43 hm42 hg44
      have HM45 := Lib.hid hm42
      clear hm42
      simp only [Act.put, List.setIfInBounds_toArray, List.set_cons_succ, List.set_cons_zero]
      refine wpS_nil ?_
      refine wpT_ready 6 [10] (by kernel_rfl) (allT_cons ?_ (allT_cons ?_ allT_nil))
      ·refine opT_S (by kernel_rfl) ?_
       refine wpS_doesU4 (i := 6) (d := some 53) (rem := [_, _, _, _, _, _]) rfl (by rfl) rfl Tryz.call63 (bput_d s.G _ (ofV s k).b hrd.out hlo.out known node (X.1.dots + 1) t x e hx.out) rfl rfl rfl rfl HM45.out [5] rfl (covS_box 4 rfl (covS_box 2 rfl covS_nil)) (fun _ => rfl) rfl ?_
       rintro u49 W47 hm46 hg48
       obtain ⟨pw, cw, rfl, hm46q⟩ := Mem.bagE rfl hm46
       clear hm46
       have HM50 := Lib.hid hm46q
       clear hm46q
       simp only [Act.put, List.setIfInBounds_toArray, List.set_cons_succ, List.set_cons_zero]
       refine wpS_nil ?_
       refine wpT_takeS (i := 7) (by kernel_rfl) (by kernel_rfl) ?_
       refine wS [7] ?_
       refine wpS_nil ?_
       refine wpT_takeS (i := 8) (by kernel_rfl) (by kernel_rfl) ?_
       refine wS [8] ?_
       refine wpS_nil ?_
       refine wpT_takeS (i := 9) (by kernel_rfl) (by kernel_rfl) ?_
       refine wS [9] ?_
       refine wpS_nil ?_
       refine wpT_ready 10 [] (by kernel_rfl) (allT_cons ?_ allT_nil)
       refine opT_S (by kernel_rfl) ?_
       refine wpS_alloc (i := 10) (dd := 13) (z := bgV noB.k (.slice none 0 0)) (cs := (bgC noB.k (.slice none 0 0)).toArray) rfl (by rfl) rfl (by kernel_rfl) rfl HM50.out (covS_box 6 rfl (covS_box 4 rfl covS_nil)) rfl ?_
       rintro b54 W53 hm52 hg51
       have HM55 := Lib.hid hm52
       clear hm52
       simp only [Act.put, List.setIfInBounds_toArray, List.set_cons_succ, List.set_cons_zero]
       refine wpS_nil ?_
       refine wpT_ready 11 [] (by kernel_rfl) (allT_cons ?_ allT_nil)
       refine opT_S (by kernel_rfl) ?_
       refine wpS_storeA (i := 11) (L2 := [_, _, _, _, _, _, _, _]) (cs' := bgC (x.k) (.slice pw x.v.length cw)) rfl (by rfl) rfl rfl rfl (by kernel_rfl) (bgC_one _ _ _) HM55.out 0 rfl rfl (by kernel_rfl) (by kernel_rfl) (covS_box 6 rfl (covS_box 4 rfl covS_nil)) rfl ?_
       rintro W58 hm57 hg56
       have HM59 := Lib.hid hm57
       clear hm57
       refine wpS_nil ?_
       refine wpT_takeS (i := 12) (by kernel_rfl) (by kernel_rfl) ?_
       refine wS [12] ?_
       refine wpS_nil ?_
       refine wpT_end (by kernel_rfl) ?_
       refine then_normal ?_
       refine ⟨by kernel_rfl, ?_⟩
       exact ⟨_, _, _, rfl, rfl, (Mem.only (M := [_, _, _, _, _, _, _, _]) HM59.out [0, 0, 3, 3, 1, 1, 0, 1] rfl)⟩
      ·refine opT_S (by kernel_rfl) ?_
       refine wpS_alloc (i := 10) (dd := 13) (z := bgV noB.k (.slice none 0 0)) (cs := (bgC noB.k (.slice none 0 0)).toArray) rfl (by rfl) rfl (by kernel_rfl) rfl HM45.out (covS_box 4 rfl (covS_box 2 rfl covS_nil)) rfl ?_
       rintro b63 W62 hm61 hg60
       have HM64 := Lib.hid hm61
       clear hm61
       simp only [Act.put, List.setIfInBounds_toArray, List.set_cons_succ, List.set_cons_zero]
       refine wpS_nil ?_
       refine wpT_ready 6 [] (by kernel_rfl) (allT_cons ?_ allT_nil)
       refine opT_S (by kernel_rfl) ?_
       refine wpS_doesU4 (i := 6) (d := some 53) (rem := [_, _, _, _, _, _, _]) rfl (by rfl) rfl Tryz.call63 (bput_d s.G _ (ofV s k).b hrd.out hlo.out known node (X.1.dots + 1) t x e hx.out) rfl rfl rfl rfl HM64.out [6] rfl (covS_box 5 rfl (covS_box 3 rfl covS_nil)) (fun _ => rfl) rfl ?_
       rintro u68 W66 hm65 hg67
       obtain ⟨pw, cw, rfl, hm65q⟩ := Mem.bagE rfl hm65
       clear hm65
       have HM69 := Lib.hid hm65q
       clear hm65q
       simp only [Act.put, List.setIfInBounds_toArray, List.set_cons_succ, List.set_cons_zero]
       refine wpS_nil ?_
       refine wpT_takeS (i := 7) (by kernel_rfl) (by kernel_rfl) ?_
       refine wS [7] ?_
       refine wpS_nil ?_
       refine wpT_takeS (i := 8) (by kernel_rfl) (by kernel_rfl) ?_
       refine wS [8] ?_
       refine wpS_nil ?_
       refine wpT_takeS (i := 9) (by kernel_rfl) (by kernel_rfl) ?_
       refine wS [9] ?_
       refine wpS_nil ?_
       refine wpT_ready 11 [] (by kernel_rfl) (allT_cons ?_ allT_nil)
       refine opT_S (by kernel_rfl) ?_
       refine wpS_storeA (i := 11) (L2 := [_, _, _, _, _, _, _, _]) (cs' := bgC (x.k) (.slice pw x.v.length cw)) rfl (by rfl) rfl rfl rfl (by kernel_rfl) (bgC_one _ _ _) HM69.out 2 rfl rfl (by kernel_rfl) (by kernel_rfl) (covS_box 6 rfl (covS_box 4 rfl covS_nil)) rfl ?_
       rintro W72 hm71 hg70
       have HM73 := Lib.hid hm71
       clear hm71
       refine wpS_nil ?_
       refine wpT_takeS (i := 12) (by kernel_rfl) (by kernel_rfl) ?_
       refine wS [12] ?_
       refine wpS_nil ?_
       refine wpT_end (by kernel_rfl) ?_
       refine then_normal ?_
       refine ⟨by kernel_rfl, ?_⟩
       exact ⟨_, _, _, rfl, rfl, (Mem.only (M := [_, _, _, _, _, _, _, _]) HM73.out [0, 0, 3, 3, 1, 1, 0, 1] rfl)⟩
     ·refine opT_S (by kernel_rfl) ?_
      refine wpS_alloc (i := 10) (dd := 13) (z := bgV noB.k (.slice none 0 0)) (cs := (bgC noB.k (.slice none 0 0)).toArray) rfl (by rfl) rfl (by kernel_rfl) rfl HM41.out (covS_box 4 rfl (covS_box 0 rfl covS_nil)) rfl ?_
      rintro b77 W76 hm75 hg74
      have HM78 := Lib.hid hm75
      clear hm75
      simp only [Act.put, List.setIfInBounds_toArray, List.set_cons_succ, List.set_cons_zero]
      refine wpS_nil ?_
      refine wpT_ready 2 [] (by kernel_rfl) (allT_cons ?_ allT_nil)
      refine opT_S (by kernel_rfl) ?_
      refine wpS_does2 (i := 2) (d := some 49) (rem := [_, _, _, _, _, _]) (out := [_, _, _, _, _, _, _, _]) rfl (by rfl) rfl Tryz.call64 (vof_d dv dl X.1 s k hk.out) rfl rfl HM78.out [2, 2] rfl (covS_box 3 rfl (covS_box 1 rfl covS_nil)) rfl rfl ?_
      rintro W80 hm79 hg81
      have HM82 := Lib.hid hm79
      clear hm79
      simp only [Act.put, List.setIfInBounds_toArray, List.set_cons_succ, List.set_cons_zero]
      refine wpS_nil ?_
      refine wpT_ready 6 [] (by kernel_rfl) (allT_cons ?_ allT_nil)
      refine opT_S (by kernel_rfl) ?_
      refine wpS_doesU4 (i := 6) (d := some 53) (rem := [_, _, _, _, _, _, _]) rfl (by rfl) rfl Tryz.call63 (bput_d s.G _ (ofV s k).b hrd.out hlo.out known node (X.1.dots + 1) t x e hx.out) rfl rfl rfl rfl HM82.out [6] rfl (covS_box 5 rfl (covS_box 3 rfl covS_nil)) (fun _ => rfl) rfl ?_
      rintro u86 W84 hm83 hg85
      obtain ⟨pw, cw, rfl, hm83q⟩ := Mem.bagE rfl hm83
      clear hm83
      have HM87 := Lib.hid hm83q
      clear hm83q
      simp only [Act.put, List.setIfInBounds_toArray, List.set_cons_succ, List.set_cons_zero]
      refine wpS_nil ?_
      refine wpT_takeS (i := 7) (by kernel_rfl) (by kernel_rfl) ?_
      refine wS [7] ?_
      refine wpS_nil ?_
      refine wpT_takeS (i := 8) (by kernel_rfl) (by kernel_rfl) ?_
      refine wS [8] ?_
      refine wpS_nil ?_
      refine wpT_takeS (i := 9) (by kernel_rfl) (by kernel_rfl) ?_
      refine wS [9] ?_
      refine wpS_nil ?_
      refine wpT_ready 11 [] (by kernel_rfl) (allT_cons ?_ allT_nil)
      refine opT_S (by kernel_rfl) ?_
      refine wpS_storeA (i := 11) (L2 := [_, _, _, _, _, _, _, _]) (cs' := bgC (x.k) (.slice pw x.v.length cw)) rfl (by rfl) rfl rfl rfl (by kernel_rfl) (bgC_one _ _ _) HM87.out 4 rfl rfl (by kernel_rfl) (by kernel_rfl) (covS_box 6 rfl (covS_box 4 rfl covS_nil)) rfl ?_
      rintro W90 hm89 hg88
      have HM91 := Lib.hid hm89
      clear hm89
      refine wpS_nil ?_
      refine wpT_takeS (i := 12) (by kernel_rfl) (by kernel_rfl) ?_
      refine wS [12] ?_
      refine wpS_nil ?_
      refine wpT_end (by kernel_rfl) ?_
      refine then_normal ?_
      refine ⟨by kernel_rfl, ?_⟩
      exact ⟨_, _, _, rfl, rfl, (Mem.only (M := [_, _, _, _, _, _, _, _]) HM91.out [0, 0, 3, 3, 1, 1, 0, 1] rfl)⟩
    rintro vs W' ⟨bb, pw, cw, e13, e14, hm⟩
    simp only [putAll, List.map_cons, List.map_nil, Act.put, List.setIfInBounds_toArray, List.set_cons_succ, List.set_cons_zero]
    rw [e13, e14]
    clear e13 e14
    have HM92 := Lib.hid hm
    clear hm
    refine then_normal (wp_seq (wp_seq ?_))
    by_cases he : e = 0
    ·subst he
     have hlx : Hid (x.v.length ≤ 4398046510976) := Lib.hid (Nat.le_trans (putBR_len hx.out) (by decide))
     refine wQ ?_
     refine wp_cond_false rfl (wp_skip (then_normal (wp_seq ?_)))
     have HC := Lib.hid (Mem.toVt s hs.out (Mem.only (M := [_, _, _, _, _, _, _, _]) HM92.out [4, 4, 4, 0, 0, 0, 0, 0] rfl))
     obtain ⟨Y, e2, hwv'⟩ : ∃ a b, writeV X (kbD (X.1.dots + 1) k x) = (a, b) := ⟨_, _, rfl⟩
     have hwv := Lib.hid hwv'
     clear hwv'
     refine wN [(0, 1), (1, 1), (2, 1), (3, 1), (4, 1), (5, 1), (6, 3), (7, 1)] (wT [0, 1] ?_)
     refine wL 2 (bgC (x.k) (.slice pw x.v.length cw)) (HC.out.part 1 rfl (bgC_all)) Tryz.underlying41 ?_
     have Cb12 := Mem.cell HC.out 3 rfl
     refine wT [3, 4] ?_
     clear Cb12
     refine wR 5 (v := ddV (kbD (X.1.dots + 1) k x) (.slice pw x.v.length cw) (.slice none 0 0)) (by kernel_rfl) ?_
     refine wpS_does2 (i := 6) (d := some 66) (rem := [_, _, _]) (out := [_, _, _, _, _]) rfl (by rfl) rfl Tryz.call65 (vwrite_e hX ⟨rowT_reads, hlx.out, srcNil _, Nat.zero_le _⟩ hwv.out) rfl rfl HC.out [0, 4, 1] rfl covS_nil rfl rfl ?_
     rintro W94 hm93 -
     have HM95 := Lib.hid hm93
     clear hm93
     simp only [Act.put, List.setIfInBounds_toArray, List.set_cons_succ, List.set_cons_zero]
     refine wT [7] ?_
     refine wZ (wp_seq (wp_seq ?_))
     by_cases he2 : e2 = 0
     ·subst he2
      have hpv : Hid (putV X node k known t = (Y, (node, X.1.dots + 1), 0)) := Lib.hid (putV_0 hnk.out hd1 hfl.out hxb.out hwv.out)
      refine wQ ?_
      refine wp_cond_false rfl (wp_skip (then_normal (wp_seq (wN [(0, 1), (1, 3), (2, 1)] ?_))))
      have Cb12 := Mem.cell HM95.out 3 rfl
      refine wT [0] ?_
      clear Cb12
      refine wpS_storeA (i := 1) (L2 := [_, _, _, _]) (cs' := [_, _]) rfl (by rfl) rfl rfl rfl (by kernel_rfl) (by rfl) HM95.out 4 rfl rfl rfl rfl covS_nil rfl ?_
      rintro W97 hm96 -
      have HM98 := Lib.hid hm96
      clear hm96
      refine wT [2] ?_
      refine wZ (wp_ret ?_)
      refine ret_cell_tmp rfl HM98.out 0 rfl rfl Tryz.underlying72 rfl (by kernel_rfl) rfl rfl ?_
      rw [hpv.out]
      exact does_ret (Mem.only (M := [_, _]) HM98.out [1, 1] rfl) rfl rfl
     ·have hpv : Hid (putV X node k known t = (X, (0, 0), e2)) := Lib.hid (putV_w hnk.out hd1 hfl.out hxb.out hwv.out he2)
      have hne := Lib.hid he2
      have g3 : (e2 != 0) = true := bne_iff_ne.2 he2
      clear he2
      refine wQ ?_
      refine wp_cond_true rfl (wp_seq (wN [(0, 1), (1, 1), (2, 3), (3, 1)] (wT [0, 1] ?_)))
      refine wpS_storeA (i := 2) (L2 := [_, _, _, _]) (cs' := [_, _]) rfl (by rfl) rfl rfl rfl (by kernel_rfl) (by rfl) HM95.out 4 rfl rfl rfl rfl covS_nil rfl ?_
      rintro W100 hm99 -
      have HM101 := Lib.hid hm99
      clear hm99
      refine wT [3] ?_
      refine wZ (wp_ret (then_ret ?_))
      refine ret_cell_tmp rfl HM101.out 0 rfl rfl Tryz.underlying72 rfl (by kernel_rfl) rfl rfl ?_
      obtain rfl := writeV_no hwv.out hne.out
      rw [hpv.out]
      exact does_ret (Mem.only (M := [_, _]) HM101.out [1, 1] rfl) rfl rfl
    ·have hpv : Hid (putV X node k known t = (X, (0, 0), e)) := Lib.hid (putV_b hnk.out hd1 hfl.out hxb.out he)
     have g2 : (e != 0) = true := bne_iff_ne.2 he
     replace he := Lib.hid he
     refine wQ ?_
     refine wp_cond_true rfl (wp_seq (wN [(0, 1), (1, 1), (2, 3), (3, 1)] (wT [0, 1] ?_)))
     refine wpS_storeA (i := 2) (L2 := [_, _, _, _, _, _, _]) (cs' := [_, _]) rfl (by rfl) rfl rfl rfl (by kernel_rfl) (by rfl) HM92.out 3 rfl rfl rfl rfl covS_nil rfl ?_
     rintro W103 hm102 -
     have HM104 := Lib.hid hm102
     clear hm102
     refine wT [3] ?_
     refine wZ (wp_ret (then_ret ?_))
     refine ret_cell_tmp rfl HM104.out 0 rfl rfl Tryz.underlying72 rfl (by kernel_rfl) rfl rfl ?_
     rw [hpv.out]
     exact does_ret (Mem.toVt s hs.out (Mem.only (M := [_, _, _, _]) HM104.out [4, 4, 4, 4] rfl)) rfl rfl
   ·have hfn : Hid ((!fullV X.1 k) = false) := Lib.hid (by rw [hfl']; rfl)
    have hpv : Hid (putV X node k known t = (X, (0, 0), 5)) := Lib.hid (putV_5 hnk.out hd1 hfl')
    have hfl := Lib.hid hfl'
    clear hfl'
    refine wN [(0, 1), (1, 1), (2, 3), (3, 1)] (wT [0, 1] ?_)
    refine wpS_does2 (i := 2) (d := some 36) (rem := [_, _, _, _]) (out := [_, _, _, _, _, _]) rfl (by rfl) rfl Tryz.call62 (vroom_d dv dl X.1 hX.ok s hs.out hl3.out k hk.out) rfl rfl HM29.out [2, 2] rfl covS_nil rfl rfl ?_
    rintro W106 hm105 -
    rw [hfn.out]
    have HM107 := Lib.hid hm105
    clear hm105
    simp only [Act.put, List.setIfInBounds_toArray, List.set_cons_succ, List.set_cons_zero]
    refine wT [3] ?_
    refine wZ (wp_cond_true rfl (wp_seq (wN [(0, 1), (1, 3), (2, 1)] (wT [0] ?_))))
    refine wpS_storeA (i := 1) (L2 := [_, _, _, _, _]) (cs' := [_, _]) rfl (by rfl) rfl rfl rfl (by kernel_rfl) (by rfl) HM107.out 2 rfl rfl rfl rfl covS_nil rfl ?_
    rintro W109 hm108 -
    have HM110 := Lib.hid hm108
    clear hm108
    refine wT [2] ?_
    refine wZ (wp_ret (then_ret ?_))
    refine ret_cell_tmp rfl HM110.out 0 rfl rfl Tryz.underlying72 rfl (by kernel_rfl) rfl rfl ?_
    rw [hpv.out]
    exact does_ret (Mem.toVt s hs.out (Mem.only (M := [_, _, _, _]) HM110.out [1, 1, 2, 2] rfl)) rfl rfl
  ·have hpv : Hid (putV X node k known t = (X, (0, 0), 6)) := Lib.hid (putV_6 hnk.out hd1)
   have g1 : (X.1.dots == 1000000) = true := beq_iff_eq.2 (by omega)
   refine wN [(0, 1), (1, 1), (2, 1), (3, 1), (4, 1)] (wT [0, 1, 2] ?_)
   refine wM 3 (.int .i64 X.1.dots) (HM29.out.part1 2 rfl vtC_dots) Tryz.underlying3 ?_
   refine wT [4] ?_
   refine wZ (wp_cond_true rfl (wp_seq (wN [(0, 1), (1, 3), (2, 1)] (wT [0] ?_))))
   refine wpS_storeA (i := 1) (L2 := [_, _, _, _, _]) (cs' := [_, _]) rfl (by rfl) rfl rfl rfl (by kernel_rfl) (by rfl) HM29.out 0 rfl rfl rfl rfl covS_nil rfl ?_
   rintro W112 hm111 -
   have HM113 := Lib.hid hm111
   clear hm111
   refine wT [2] ?_
   refine wZ (wp_ret (then_ret ?_))
   refine ret_cell_tmp rfl HM113.out 0 rfl rfl Tryz.underlying72 rfl (by kernel_rfl) rfl rfl ?_
   rw [hpv.out]
   exact does_ret (Mem.toVt s hs.out (Mem.only (M := [_, _, _, _]) HM113.out [2, 2, 2, 2] rfl)) rfl rfl
section
variable {X Y : Vl2} {k : ByteArray} {b x : Bg} {e : Int}
theorem mergeV_1 (h : ¬ (keyB k = true ∧ mayB b = true)) : mergeV X k b = (X, 1) := by
 unfold mergeV
 rw [if_neg h]
theorem mergeV_5 (h : keyB k = true ∧ mayB b = true) (h3 : fullV X.1 k = true) : mergeV X k b = (X, 5) := by
 unfold mergeV
 rw [if_pos h, if_pos h3]
theorem mergeV_j (h : keyB k = true ∧ mayB b = true) (h3 : fullV X.1 k = false) (h4 : joinBR b (bagV X.1 k) = (x, e)) (h5 : e ≠ 0) : mergeV X k b = (X, e) := by
 unfold mergeV
 rw [if_pos h, h3, if_neg Bool.false_ne_true, h4, if_neg h5]
theorem mergeV_s (h : keyB k = true ∧ mayB b = true) (h3 : fullV X.1 k = false) (h4 : joinBR b (bagV X.1 k) = (x, 0)) (h5 : sameB x (bagV X.1 k) = true) : mergeV X k b = (X, 0) := by
 unfold mergeV belowB
 rw [if_pos h, h3, if_neg Bool.false_ne_true, h4, if_pos rfl, h5, if_pos (by simp)]
theorem mergeV_w (h : keyB k = true ∧ mayB b = true) (h3 : fullV X.1 k = false) (h4 : joinBR b (bagV X.1 k) = (x, 0)) (h5 : sameB x (bagV X.1 k) = false) : mergeV X k b = writeV X (kbD X.1.dots k x) := by
 unfold mergeV belowB
 rw [if_pos h, h3, if_neg Bool.false_ne_true, h4, if_pos rfl, h5, if_neg (by simp)]
end
set_option maxHeartbeats 4000000 in
set_option maxRecDepth 100000 in
theorem vmerge_d (R : At) (dv dl : Nat) (X : Vl2) (hX : Kept X) (k : ByteArray) (sb : Value) (b : Bg) (hb : Reads elemV R sb b.v) (lb : b.v.length ≤ 4398046510976) : Does Tryz.prog 32 #[.pointer (some ⟨dv, 0, none⟩), .string k, bgV b.k sb] [vtT dv dl X.1, lgT dl X.2, R] (.int .i64 (mergeV X k b).2) [vtT dv dl (mergeV X k b).1.1, lgT dl (mergeV X k b).1.2, R] := by
 intro w H hp
 have HM0 := Lib.hid (mem_refl hp)
 clear hp
 obtain ⟨pb, cb, rfl⟩ := row_form (Mem.src HM0.out 2 rfl hb)
 have hbR : Hid (Reads elemV R (.slice pb b.v.length cb) b.v) := Lib.hid hb
 clear hb
 obtain ⟨s, hs', HM1⟩ := Mem.vt HM0.out
 clear HM0
 have HM0 := Lib.hid HM1
 clear HM1
 have hs := Lib.hid hs'
 clear hs'
 go_enter Tryz.func32, Tryz.ntmps32
 refine wp_seq (wN [(0, 3), (1, 1)] ?_)
 refine wBh 0 HM0 fun b3 W2 HM4 => ?_
 refine wT [1] ?_
 refine wZ (wp_seq (wp_seq ?_))
 rcases (show keyB k = false ∨ (keyB k = true ∧ mayB b = false) ∨ (keyB k = true ∧ mayB b = true) from by cases keyB k <;> cases mayB b <;> simp) with hkb' | ⟨hkb', hbb'⟩ | ⟨hkb', hbb'⟩
 ·have hpv : Hid (mergeV X k b = (X, 1)) := Lib.hid (mergeV_1 (by rw [hkb']; simp))
  have hkb := Lib.hid hkb'
  clear hkb'
  refine wN [(0, 1), (1, 1), (2, 1), (3, 1), (4, 3), (5, 1), (6, 1), (7, 1), (8, 1), (9, 3), (10, 1), (11, 1)] (wT [0, 1, 2, 3] ?_)
  refine wpS_does1 (i := 4) (d := some 14) (rem := [_, _, _, _, _, _]) (out := [_, _, _, _, _, _]) rfl (by rfl) rfl Tryz.call61 (spmay_d k) rfl HM4.out [] rfl covS_nil rfl rfl ?_
  rintro W6 hm5 -
  rw [hkb.out]
  have HM7 := Lib.hid hm5
  clear hm5
  simp only [Act.put, List.setIfInBounds_toArray, List.set_cons_succ, List.set_cons_zero]
  refine wT [5, 6, 7] ?_
  refine wK 8 ?_
  refine wK 9 ?_
  refine wT [10, 11] ?_
  refine wZ (wp_cond_true rfl (wp_seq (wQ ?_)))
  refine wp_ret (then_ret (bodyPost_ret (results_tmp rfl _ _ _) rfl ?_))
  rw [hpv.out]
  exact does_ret (Mem.toVt s hs.out (Mem.only (M := [_, _, _, _, _]) HM7.out [1, 1, 1, 1, 1] rfl)) rfl rfl
 ·have hpv : Hid (mergeV X k b = (X, 1)) := Lib.hid (mergeV_1 (by rw [hbb']; simp))
  have hkb := Lib.hid hkb'
  clear hkb'
  have hbb := Lib.hid hbb'
  clear hbb'
  refine wN [(0, 1), (1, 1), (2, 1), (3, 1), (4, 3), (5, 1), (6, 1), (7, 1), (8, 1), (9, 3), (10, 1), (11, 1)] (wT [0, 1, 2, 3] ?_)
  refine wpS_does1 (i := 4) (d := some 14) (rem := [_, _, _, _, _, _]) (out := [_, _, _, _, _, _]) rfl (by rfl) rfl Tryz.call61 (spmay_d k) rfl HM4.out [] rfl covS_nil rfl rfl ?_
  rintro W9 hm8 -
  rw [hkb.out]
  have HM10 := Lib.hid hm8
  clear hm8
  simp only [Act.put, List.setIfInBounds_toArray, List.set_cons_succ, List.set_cons_zero]
  refine wT [5, 6, 7] ?_
  refine wL 8 (bgC (b.k) (.slice pb b.v.length cb)) (HM10.out.part 0 rfl (bgC_all)) Tryz.underlying41 ?_
  refine wpS_does1 (i := 9) (d := some 19) (rem := [_, _, _, _, _]) (out := [_, _, _, _, _, _]) rfl (by rfl) rfl Tryz.call72 (bmay_d R _ b hbR.out lb) rfl HM10.out [5] rfl covS_nil rfl rfl ?_
  rintro W12 hm11 -
  rw [hbb.out]
  have HM13 := Lib.hid hm11
  clear hm11
  simp only [Act.put, List.setIfInBounds_toArray, List.set_cons_succ, List.set_cons_zero]
  refine wT [10, 11] ?_
  refine wZ (wp_cond_true rfl (wp_seq (wQ ?_)))
  refine wp_ret (then_ret (bodyPost_ret (results_tmp rfl _ _ _) rfl ?_))
  rw [hpv.out]
  exact does_ret (Mem.toVt s hs.out (Mem.only (M := [_, _, _, _, _]) HM13.out [2, 2, 2, 2, 0] rfl)) rfl rfl
 ·have hk := Lib.hid hkb'
  have hkm : Hid (keyB k = true ∧ mayB b = true) := Lib.hid ⟨hkb', hbb'⟩
  have hkb := Lib.hid hkb'
  clear hkb'
  have hbb := Lib.hid hbb'
  clear hbb'
  refine wN [(0, 1), (1, 1), (2, 1), (3, 1), (4, 3), (5, 1), (6, 1), (7, 1), (8, 1), (9, 3), (10, 1), (11, 1)] (wT [0, 1, 2, 3] ?_)
  refine wpS_does1 (i := 4) (d := some 14) (rem := [_, _, _, _, _, _]) (out := [_, _, _, _, _, _]) rfl (by rfl) rfl Tryz.call61 (spmay_d k) rfl HM4.out [] rfl covS_nil rfl rfl ?_
  rintro W15 hm14 -
  rw [hkb.out]
  have HM16 := Lib.hid hm14
  clear hm14
  simp only [Act.put, List.setIfInBounds_toArray, List.set_cons_succ, List.set_cons_zero]
  refine wT [5, 6, 7] ?_
  refine wL 8 (bgC (b.k) (.slice pb b.v.length cb)) (HM16.out.part 0 rfl (bgC_all)) Tryz.underlying41 ?_
  refine wpS_does1 (i := 9) (d := some 19) (rem := [_, _, _, _, _]) (out := [_, _, _, _, _, _]) rfl (by rfl) rfl Tryz.call72 (bmay_d R _ b hbR.out lb) rfl HM16.out [5] rfl covS_nil rfl rfl ?_
  rintro W18 hm17 -
  rw [hbb.out]
  have HM19 := Lib.hid hm17
  clear hm17
  simp only [Act.put, List.setIfInBounds_toArray, List.set_cons_succ, List.set_cons_zero]
  refine wT [10, 11] ?_
  refine wZ (wp_cond_false rfl (wp_skip (then_normal (wp_seq (wp_seq ?_)))))
  have hl3 : Hid (X.1.b.length ≤ 3000) := Lib.hid (Nat.le_trans hX.len (Nat.le_trans hX.lg.len hX.lg.room))
  cases hfl' : fullV X.1 k
  ·have hfn : Hid ((!fullV X.1 k) = true) := Lib.hid (by rw [hfl']; rfl)
   have hfl := Lib.hid hfl'
   clear hfl'
   refine wN [(0, 1), (1, 1), (2, 3), (3, 1)] (wT [0, 1] ?_)
   refine wpS_does2 (i := 2) (d := some 24) (rem := [_, _, _, _]) (out := [_, _, _, _, _, _]) rfl (by rfl) rfl Tryz.call62 (vroom_d dv dl X.1 hX.ok s hs.out hl3.out k hk.out) rfl rfl HM19.out [2, 2] rfl covS_nil rfl rfl ?_
   rintro W21 hm20 -
   rw [hfn.out]
   have HM22 := Lib.hid hm20
   clear hm20
   simp only [Act.put, List.setIfInBounds_toArray, List.set_cons_succ, List.set_cons_zero]
   refine wT [3] ?_
   refine wZ (wp_cond_false rfl (wp_skip (then_normal (wp_seq (wN [(0, 1), (1, 1), (2, 3), (3, 3), (4, 3)] (wT [0, 1] ?_))))))
   refine wpS_does2 (i := 2) (d := some 28) (rem := [_, _, _, _]) (out := [_, _, _, _, _, _]) rfl (by rfl) rfl Tryz.call64 (vof_d dv dl X.1 s k hk.out) rfl rfl HM22.out [0, 0] rfl covS_nil rfl rfl ?_
   rintro W24 hm23 -
   have HM25 := Lib.hid hm23
   clear hm23
   simp only [Act.put, List.setIfInBounds_toArray, List.set_cons_succ, List.set_cons_zero]
   refine wpS_alloc (i := 3) (dd := 7) (z := bgV noB.k (.slice none 0 0)) (cs := (bgC noB.k (.slice none 0 0)).toArray) rfl (by rfl) rfl (by kernel_rfl) rfl HM25.out covS_nil rfl ?_
   rintro b28 W27 hm26 -
   have HM29 := Lib.hid hm26
   clear hm26
   simp only [Act.put, List.setIfInBounds_toArray, List.set_cons_succ, List.set_cons_zero]
   refine wpS_storeA (i := 4) (L2 := [_, _, _, _, _, _]) (cs' := bgC ((ofV s k).b.k) (.slice (ofV s k).p (ofV s k).n (ofV s k).c)) rfl (by rfl) rfl rfl rfl (by kernel_rfl) (bgC_one _ _ _) HM29.out 0 rfl rfl (by kernel_rfl) (by kernel_rfl) covS_nil rfl ?_
   rintro W31 hm30 -
   have HM32 := Lib.hid hm30
   clear hm30
   refine wZ (wp_seq ?_)
   obtain ⟨x, e, hx'⟩ : ∃ a c, joinBR b (ofV s k).b = (a, c) := ⟨_, _, rfl⟩
   have hbo := Lib.hid (hs.out.ofV hk.out).1
   have hxb : Hid (joinBR b (bagV X.1 k) = (x, e)) := Lib.hid (by rw [hbo.out]; exact hx')
   have hx := Lib.hid hx'
   clear hx'
   have hrd := Lib.hid (hs.out.ofV hk.out).2.2.1
   have hlo : Hid ((ofV s k).b.v.length ≤ 4398046510976) := Lib.hid (by rw [← hbo.out]; exact Nat.le_trans (bagV_len hX.ok k) (by decide))
   refine wN [(0, 1), (1, 1), (2, 3), (3, 1), (4, 1), (5, 1), (6, 3), (7, 3), (8, 1)] ?_
   refine wL 0 (bgC (b.k) (.slice pb b.v.length cb)) (HM32.out.part 4 rfl (bgC_all)) Tryz.underlying41 ?_
   refine wL 1 (bgC ((ofV s k).b.k) (.slice (ofV s k).p (ofV s k).n (ofV s k).c)) (HM32.out.part 0 rfl (bgC_all)) Tryz.underlying41 ?_
   refine wpS_doesU2 (i := 2) (d := some 32) (rem := [_, _, _, _, _]) rfl (by rfl) rfl Tryz.call73 (DoesU.ofList (bjoin_d (listT [R, s.G]) _ b (vL 0 rfl hbR.out) lb _ (ofV s k).b (vL 1 rfl hrd.out) hlo.out x e hx.out)) rfl rfl HM32.out [3, 4] rfl covS_nil (fun _ => rfl) rfl ?_
   rintro u35 W34 hm33 -
   obtain ⟨pw, cw, rfl, hm33q⟩ := Mem.bagE rfl hm33
   clear hm33
   have HM36 := Lib.hid hm33q
   clear hm33q
   simp only [Act.put, List.setIfInBounds_toArray, List.set_cons_succ, List.set_cons_zero]
   refine wT [3, 4, 5] ?_
   refine wpS_alloc (i := 6) (dd := 8) (z := bgV noB.k (.slice none 0 0)) (cs := (bgC noB.k (.slice none 0 0)).toArray) rfl (by rfl) rfl (by kernel_rfl) rfl HM36.out covS_nil rfl ?_
   rintro b39 W38 hm37 -
   have HM40 := Lib.hid hm37
   clear hm37
   simp only [Act.put, List.setIfInBounds_toArray, List.set_cons_succ, List.set_cons_zero]
   refine wpS_storeA (i := 7) (L2 := [_, _, _, _, _, _, _, _]) (cs' := bgC (x.k) (.slice pw x.v.length cw)) rfl (by rfl) rfl rfl rfl (by kernel_rfl) (bgC_one _ _ _) HM40.out 0 rfl rfl (by kernel_rfl) (by kernel_rfl) covS_nil rfl ?_
   rintro W42 hm41 -
   have HM43 := Lib.hid hm41
   clear hm41
   refine wT [8] ?_
   refine wZ (wp_seq (wp_seq ?_))
   by_cases he : e = 0
   ·subst he
    have hlx : Hid (x.v.length ≤ 4398046510976) := Lib.hid (Nat.le_trans (joinBR_len0 hx.out) (by decide))
    refine wQ ?_
    refine wp_cond_false rfl (wp_skip (then_normal (wp_seq (wp_seq ?_))))
    cases hsm' : sameB x (ofV s k).b
    ·have hmw : Hid (mergeV X k b = writeV X (kbD X.1.dots k x)) := Lib.hid (mergeV_w hkm.out hfl.out hxb.out (by rw [hbo.out]; exact hsm'))
     have hsm := Lib.hid hsm'
     clear hsm'
     refine wN [(0, 1), (1, 1), (2, 3)] ?_
     refine wL 0 (bgC (x.k) (.slice pw x.v.length cw)) (HM43.out.part 0 rfl (bgC_all)) Tryz.underlying41 ?_
     refine wL 1 (bgC ((ofV s k).b.k) (.slice (ofV s k).p (ofV s k).n (ofV s k).c)) (HM43.out.part 4 rfl (bgC_all)) Tryz.underlying41 ?_
     refine wpS_does2 (i := 2) (d := some 40) (rem := [_, _, _, _, _, _, _]) (out := [_, _, _, _, _, _, _, _, _]) rfl (by rfl) rfl Tryz.call44 (Does.ofList (bsame_d (listT [_, _]) _ x (vL 0 rfl rowT_reads) hlx.out _ (ofV s k).b (vL 1 rfl hrd.out) hlo.out)) rfl rfl HM43.out [1, 2] rfl covS_nil rfl rfl ?_
     rintro W45 hm44 -
     rw [hsm.out]
     have HM46 := Lib.hid hm44
     clear hm44
     simp only [Act.put, List.setIfInBounds_toArray, List.set_cons_succ, List.set_cons_zero]
     refine wZ (wp_cond_false rfl (wp_skip (then_normal (wp_seq ?_))))
     obtain ⟨Y, e2, hwv'⟩ : ∃ a c, writeV X (kbD X.1.dots k x) = (a, c) := ⟨_, _, rfl⟩
     have hwv := Lib.hid hwv'
     clear hwv'
     have hpv : Hid (mergeV X k b = (Y, e2)) := Lib.hid (hmw.out.trans hwv.out)
     refine wp_region_M (fun k => k ∈ ([] : List Nat)) [(0, 1), (1, 1), (2, 1), (3, 1), (4, 1), (5, 1), (6, 1), (7, 1), (8, 3), (9, 1)] (by kernel_rfl) (by kernel_rfl) HM46.out ?_
     intro W47 hm48
     have HM49 := Lib.hid hm48
     clear hm48
     refine wT [0, 1] ?_
     refine wL 2 (bgC (x.k) (.slice pw x.v.length cw)) (HM49.out.part 2 rfl (bgC_all)) Tryz.underlying41 ?_
     refine wT [3, 4, 5] ?_
     refine wM 6 (.int .i64 X.1.dots) (HM49.out.part1 5 rfl vtC_dots) Tryz.underlying3 ?_
     refine wR 7 (v := ddV (kbD X.1.dots k x) (.slice pw x.v.length cw) (.slice none 0 0)) (by kernel_rfl) ?_
     have HC := Lib.hid (Mem.toVt s hs.out (Mem.only (M := [_, _, _, _, _, _, _, _, _]) HM49.out [5, 5, 1, 0, 0, 0, 0, 0, 0] rfl))
     refine wpS_does2 (i := 8) (d := some 49) (rem := [_, _, _, _]) (out := [_, _, _, _, _, _]) rfl (by rfl) rfl Tryz.call65 (vwrite_e hX ⟨rowT_reads, hlx.out, srcNil _, Nat.zero_le _⟩ hwv.out) rfl rfl HC.out [0, 5, 0] rfl covS_nil rfl rfl ?_
     rintro W51 hm50 -
     have HM52 := Lib.hid hm50
     clear hm50
     simp only [Act.put, List.setIfInBounds_toArray, List.set_cons_succ, List.set_cons_zero]
     refine wT [9] ?_
     refine wZ (wp_ret (bodyPost_ret (results_tmp rfl _ _ _) rfl ?_))
     rw [hpv.out]
     exact does_ret (Mem.only (M := [_, _, _]) HM52.out [0, 0, 1] rfl) rfl rfl
    ·have hpv : Hid (mergeV X k b = (X, 0)) := Lib.hid (mergeV_s hkm.out hfl.out hxb.out (by rw [hbo.out]; exact hsm'))
     have hsm := Lib.hid hsm'
     clear hsm'
     refine wN [(0, 1), (1, 1), (2, 3)] ?_
     refine wL 0 (bgC (x.k) (.slice pw x.v.length cw)) (HM43.out.part 0 rfl (bgC_all)) Tryz.underlying41 ?_
     refine wL 1 (bgC ((ofV s k).b.k) (.slice (ofV s k).p (ofV s k).n (ofV s k).c)) (HM43.out.part 4 rfl (bgC_all)) Tryz.underlying41 ?_
     refine wpS_does2 (i := 2) (d := some 40) (rem := [_, _, _, _, _, _, _]) (out := [_, _, _, _, _, _, _, _, _]) rfl (by rfl) rfl Tryz.call44 (Does.ofList (bsame_d (listT [_, _]) _ x (vL 0 rfl rowT_reads) hlx.out _ (ofV s k).b (vL 1 rfl hrd.out) hlo.out)) rfl rfl HM43.out [1, 2] rfl covS_nil rfl rfl ?_
     rintro W54 hm53 -
     rw [hsm.out]
     have HM55 := Lib.hid hm53
     clear hm53
     simp only [Act.put, List.setIfInBounds_toArray, List.set_cons_succ, List.set_cons_zero]
     refine wZ (wp_cond_true rfl (wp_seq (wQ ?_)))
     refine wp_ret (then_ret (bodyPost_ret (results_tmp rfl _ _ _) rfl ?_))
     rw [hpv.out]
     exact does_ret (Mem.toVt s hs.out (Mem.only (M := [_, _, _, _, _]) HM55.out [5, 5, 1, 5, 2] rfl)) rfl rfl
   ·have hpv : Hid (mergeV X k b = (X, e)) := Lib.hid (mergeV_j hkm.out hfl.out hxb.out he)
    have g2 : (e != 0) = true := bne_iff_ne.2 he
    replace he := Lib.hid he
    refine wQ ?_
    refine wp_cond_true rfl (wp_seq (wQ ?_))
    refine wp_ret (then_ret (bodyPost_ret (results_tmp rfl _ _ _) rfl ?_))
    rw [hpv.out]
    exact does_ret (Mem.toVt s hs.out (Mem.only (M := [_, _, _, _, _]) HM43.out [5, 5, 3, 5, 2] rfl)) rfl rfl
  ·have hfn : Hid ((!fullV X.1 k) = false) := Lib.hid (by rw [hfl']; rfl)
   have hpv : Hid (mergeV X k b = (X, 5)) := Lib.hid (mergeV_5 hkm.out hfl')
   have hfl := Lib.hid hfl'
   clear hfl'
   refine wN [(0, 1), (1, 1), (2, 3), (3, 1)] (wT [0, 1] ?_)
   refine wpS_does2 (i := 2) (d := some 24) (rem := [_, _, _, _]) (out := [_, _, _, _, _, _]) rfl (by rfl) rfl Tryz.call62 (vroom_d dv dl X.1 hX.ok s hs.out hl3.out k hk.out) rfl rfl HM19.out [2, 2] rfl covS_nil rfl rfl ?_
   rintro W57 hm56 -
   rw [hfn.out]
   have HM58 := Lib.hid hm56
   clear hm56
   simp only [Act.put, List.setIfInBounds_toArray, List.set_cons_succ, List.set_cons_zero]
   refine wT [3] ?_
   refine wZ (wp_cond_true rfl (wp_seq (wQ ?_)))
   refine wp_ret (then_ret (bodyPost_ret (results_tmp rfl _ _ _) rfl ?_))
   rw [hpv.out]
   exact does_ret (Mem.toVt s hs.out (Mem.only (M := [_, _, _, _, _]) HM58.out [0, 0, 2, 2, 0] rfl)) rfl rfl
end Go.Proofs.YtcchkkdbagpgjaaGreat
