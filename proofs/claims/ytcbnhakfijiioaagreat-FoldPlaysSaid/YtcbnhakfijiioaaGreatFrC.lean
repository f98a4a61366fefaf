/- The reference's vault: write, Put, Drop. -/
import Derived.Test.YtcbnhakfijiioaaGreatFrB
import Derived.Test.YtcbnhakfijiioaaGreatRfL
import Derived.Test.YtcbnhakfijiioaaGreatVtW
import Derived.Test.YtcbnhakfijiioaaGreatVtP
import Derived.Test.YtcbnhakfijiioaaGreatPA
namespace Go.Proofs.YtcbnhakfijiioaaGreat
open Go Go.RowKit Go.BigFrame
theorem Mem.addNil {L : List At} {H0 : Nat → Prop} {w W : World} (h : Mem L H0 w W) : Mem (listT [] :: L) H0 w W := SEnd.mono h fun _ h => starl_emp h
def rvN (u : Value) (dl : Nat) (S : Vt) : At := exT fun d : Nat => [prT (u = .pointer (some ⟨d, 0, none⟩)), rvT d dl S]
theorem Mem.rvN {L : List At} {H0 : Nat → Prop} {w W : World} {u : Value} {dl : Nat} {S : Vt} (h : Mem (rvN u dl S :: L) H0 w W) : ∃ d, u = .pointer (some ⟨d, 0, none⟩) ∧ Mem (rvT d dl S :: L) H0 w W := by
 obtain ⟨s, h⟩ := Mem.ex h
 obtain ⟨hu, h⟩ := Mem.pr h
 exact ⟨s, hu, h⟩
def rlT (dl : Nat) (S : Lg) : At := exT fun ys : List Dx => [rfT dl S ys]
section
variable {L : List At} {H0 : Nat → Prop} {w W : World} {dl : Nat} {S : Lg}
theorem Mem.rl (h : Mem (rlT dl S :: L) H0 w W) : ∃ ys, Mem (rfT dl S ys :: L) H0 w W := Mem.ex h
theorem Mem.toRl {ys : List Dx} (h : Mem (rfT dl S ys :: L) H0 w W) : Mem (rlT dl S :: L) H0 w W := Mem.addEx ys h
end
theorem writeL_same {S Y : Lg} {x : Dd} {e : Int} (h : writeL S x = (Y, e)) (he : e ≠ 0) : Y = S := by
 unfold writeL at h
 split at h
 ·split at h
  ·exact (Prod.mk.inj h).1.symm
  ·exact absurd (Prod.mk.inj h).2.symm he
 ·exact (Prod.mk.inj h).1.symm
theorem writeV_same {X : Vl2} {x : Dd} {Y : Lg} {e : Int} (h : writeL X.2 x = (Y, e)) (he : e ≠ 0) : writeV X x = (X, e) := by
 unfold writeV
 rw [h, if_neg he]
theorem rcount_d (A : At) (d dl : Nat) (S : Vt) (hV : VtOk S) (hl : S.b.length ≤ 3000) (x : Dd) (vx rx : Value) (hA : DdR A x vx rx) (hk : x.kind = 3 ∨ x.kind = 4) : Does Tryz.prog 34 #[.pointer (some ⟨d, 0, none⟩), ddV x vx rx] [rvT d dl S, A] (.tuple #[]) [rvT d dl (countD S x)] := by
 obtain ⟨dk, n, key, b, r, part⟩ := x
 rcases hk with hk | hk
 ·obtain rfl : dk = 3 := hk
  exact rcount3_d A d dl S hV hl n key b r part vx rx hA
 ·obtain rfl : dk = 4 := hk
  exact rcount4_d A d dl S hV hl n key b r part vx rx hA
set_option maxHeartbeats 4000000 in
set_option maxRecDepth 100000 in
theorem rwriteV_d (A : At) (d dl : Nat) (X : Vl2) (hX : Kept X) (x : Dd) (vx rx : Value) (hA : DdR A x vx rx) (hk : x.kind = 3 ∨ x.kind = 4) : Does Tryz.prog 50 #[.pointer (some ⟨d, 0, none⟩), ddV x vx rx] [rvT d dl X.1, rlT dl X.2, A] (.int .i64 (writeV X x).2) [rvT d dl (writeV X x).1.1, rlT dl (writeV X x).1.2] := by
 intro w H hp
 have HM0 := Lib.hid (mem_refl hp)
 clear hp
 obtain ⟨s, hs', HM1'⟩ := Mem.rv HM0.out
 clear HM0
 have HM0 := Lib.hid HM1'
 clear HM1'
 have hs := Lib.hid hs'
 clear hs'
 have hl3 : X.1.b.length ≤ 3000 := Nat.le_trans hX.len (Nat.le_trans hX.lg.len hX.lg.room)
 have hyl : s.ys.length ≤ 3000 := by rw [hs.out.len]; exact hl3
 obtain ⟨pv, cv, rfl⟩ := row_form (Mem.src HM0.out 4 rfl hA.v)
 obtain ⟨pr, cr, rfl⟩ := row_form (Mem.src HM0.out 4 rfl hA.r)
 have hx := Lib.hid hA
 clear hA
 have HM1' := Mem.only (M := [_, _, _, _, _]) HM0.out [3, 0, 0, 0, 0] rfl
 clear HM0
 obtain ⟨ys, HM2'⟩ := Mem.rl HM1'
 clear HM1'
 have HM0 := Lib.hid (Mem.only (M := [_, _, _, _, _]) HM2' [1, 1, 1, 0, 0] rfl)
 clear HM2'
 go_enter Tryz.func50, Tryz.ntmps50
 refine wp_seq ?_
 obtain ⟨Y, e, hwl'⟩ : ∃ a b, writeL X.2 x = (a, b) := ⟨_, _, rfl⟩
 have hwl := Lib.hid hwl'
 clear hwl'
 refine wN [(0, 3), (1, 1)] ?_
 refine wBh 0 HM0 fun b3 W2 HM4 => ?_
 refine wT [1] ?_
 refine wZ (wp_seq ?_)
 refine wp_region_M (fun k => k ∈ ([] : List Nat)) [(0, 1), (1, 1), (2, 1), (3, 1), (4, 1), (5, 3), (6, 1)] (by kernel_rfl) (by kernel_rfl) HM4.out ?_
 intro W5 hm6
 have HM7 := Lib.hid hm6
 clear hm6
 refine wT [0, 1, 2] ?_
 refine wM 3 (.pointer (some ⟨dl, 0, none⟩)) (HM7.out.part1 1 rfl rvC_ledger) Tryz.underlying29 ?_
 refine wL 4 (ddC (x) (.slice pv x.b.v.length cv) (.slice pr x.r.p.2.2.length cr)) (HM7.out.part 0 rfl (ddC_all)) Tryz.underlying85 ?_
 refine wD2 5 [_, _, _, _] [_, _, _, _, _, _] Tryz.call78 (rwrite_d A dl X.2 ys (⟨x, pv, x.b.v.length, cv, pr, x.r.p.2.2.length, cr⟩ : Dx) hx.out hX.lg) HM7 [4, 4] fun W9 hm8 => ?_
 rw [hwl.out] at hm8
 rw [hwl.out]
 have HM10 := Lib.hid hm8
 clear hm8
 refine wT [6] ?_
 refine wZ (wp_seq (wp_seq ?_))
 by_cases he : e = 0
 ·subst he
  have hwv : Hid (writeV X x = ((countD X.1 x, Y), 0)) := Lib.hid (writeV_0 hwl.out).1
  refine wQ ?_
  refine wp_cond_true rfl ?_
  have HS11 := Mem.toRv s hs.out (Mem.only (M := [_, _, _, _, _, _]) HM10.out [3, 3, 3, 0, 0, 0] rfl)
  have HM12 := Lib.hid HS11
  clear HS11
  refine wN [(0, 1), (1, 1), (2, 3)] (wT [0] ?_)
  refine wL 1 (ddC (x) (.slice pv x.b.v.length cv) (.slice pr x.r.p.2.2.length cr)) (HM12.out.part 3 rfl (ddC_all)) Tryz.underlying85 ?_
  refine wD2h 2 [_, _] [_, _, _] Tryz.call34 (rcount_d A d dl X.1 hX.ok hl3 x _ _ hx.out hk) HM12 [0, 1] fun W14 HM15 => ?_
  refine wZ (wp_seq (wQ ?_))
  refine wp_ret (bodyPost_ret (results_tmp rfl _ _ _) rfl ?_)
  rw [hwv.out]
  exact does_ret (Mem.swap2 (Mem.toRl (Mem.only (M := [_, _]) HM15.out [1, 0] rfl))) rfl rfl
 ·have g1 : (e == 0) = false := beq_eq_false_iff_ne.2 he
  have hne := Lib.hid he
  clear he
  refine wQ ?_
  refine wp_cond_false rfl (wp_skip (then_normal (wp_seq (wQ ?_))))
  refine wp_ret (bodyPost_ret (results_tmp rfl _ _ _) rfl ?_)
  rw [writeV_same hwl.out hne.out]
  obtain rfl := writeL_same hwl.out hne.out
  exact does_ret (Mem.swap2 (Mem.toRl (Mem.swap2 (Mem.toRv s hs.out (Mem.only (M := [_, _, _, _]) HM10.out [3, 3, 3, 0] rfl))))) rfl rfl
theorem rwrite_e {A : At} {d dl : Nat} {X Y : Vl2} {x : Dd} {vx rx : Value} {e : Int} (hX : Kept X) (hA : DdR A x vx rx) (hk : x.kind = 3 ∨ x.kind = 4) (h : writeV X x = (Y, e)) : Does Tryz.prog 50 #[.pointer (some ⟨d, 0, none⟩), ddV x vx rx] [rvT d dl X.1, rlT dl X.2, A] (.int .i64 e) [rvT d dl Y.1, rlT dl Y.2] := by
 have h1 := rwriteV_d A d dl X hX x vx rx hA hk
 rw [h] at h1
 exact h1
set_option maxHeartbeats 4000000 in
set_option maxRecDepth 100000 in
theorem rput_d (d dl : Nat) (X : Vl2) (hX : Kept X) (node : Int) (k : ByteArray) (known : Nat → Int) (t : ByteArray) : Does Tryz.prog 26 #[.pointer (some ⟨d, 0, none⟩), .int .i64 node, .string k, vV known, .string t] [rvT d dl X.1, rlT dl X.2] (.tuple #[dV (putV X node k known t).2.1, .int .i64 (putV X node k known t).2.2]) [rvT d dl (putV X node k known t).1.1, rlT dl (putV X node k known t).1.2] := by
 intro w H hp
 have HM0 := Lib.hid (mem_refl hp)
 clear hp
 obtain ⟨s, hs', HM1'⟩ := Mem.rv HM0.out
 clear HM0
 have HM0 := Lib.hid HM1'
 clear HM1'
 have hs := Lib.hid hs'
 clear hs'
 have hl3 : X.1.b.length ≤ 3000 := Nat.le_trans hX.len (Nat.le_trans hX.lg.len hX.lg.room)
 have hyl : s.ys.length ≤ 3000 := by rw [hs.out.len]; exact hl3
 go_enter Tryz.func26, Tryz.ntmps26
 refine wp_seq (wN [(0, 3), (1, 3), (2, 1)] ?_)
 refine wBh 0 HM0 fun b3 W2 HM4 => ?_
 refine wpS_alloc (i := 1) (dd := 10) (z := .agg #[.int .i64 0, .int .i64 0]) (cs := #[.int .i64 0, .int .i64 0]) rfl (by rfl) rfl (by kernel_rfl) rfl HM4.out covS_nil rfl ?_
 rintro b7 W6 hm5 -
 have HM8 := Lib.hid hm5
 clear hm5
 simp only [Act.put, List.setIfInBounds_toArray, List.set_cons_succ, List.set_cons_zero]
 refine wT [2] ?_
 refine wZ (wp_seq (wp_block (wp_seq ?_)))
 rcases (show nodeE node = false ∨ (nodeE node = true ∧ keyB k = false) ∨ (nodeE node = true ∧ keyB k = true) from by cases nodeE node <;> cases keyB k <;> simp) with hnb' | ⟨hnb', hkb'⟩ | ⟨hnb', hkb'⟩
 ·have hpv : Hid (putV X node k known t = (X, (0, 0), 1)) := Lib.hid (putV_1 (by rw [hnb']; simp))
  have hnb := Lib.hid hnb'
  clear hnb'
  refine wN [(0, 1), (1, 3), (2, 1), (3, 1), (4, 1), (5, 3), (6, 1), (7, 1), (8, 1)] (wT [0] ?_)
  refine wD1 1 [_, _, _, _, _, _] [_, _, _, _, _, _] Tryz.call56 (rnode_d node) HM8 [] fun W10 hm9 => ?_
  rw [hnb.out]
  have HM11 := Lib.hid hm9
  clear hm9
  refine wT [2, 3, 4] ?_
  refine wK 5 ?_
  refine wT [6, 7, 8] ?_
  refine wZ (wp_cond_true rfl (wp_seq (wN [(0, 1), (1, 3), (2, 1)] (wT [0] ?_))))
  refine wpS_storeA (i := 1) (L2 := [_, _, _, _, _]) (cs' := [_, _]) rfl (by rfl) rfl rfl rfl (by kernel_rfl) (by rfl) HM11.out 0 rfl rfl rfl rfl covS_nil rfl ?_
  rintro W13 hm12 -
  have HM14 := Lib.hid hm12
  clear hm12
  refine wT [2] ?_
  refine wZ (wp_ret ?_)
  refine block_ret (then_ret ?_)
  refine ret_cell_tmp rfl HM14.out 0 rfl rfl Tryz.underlying56 rfl (by kernel_rfl) rfl rfl ?_
  rw [hpv.out]
  exact does_ret (Mem.toRv s hs.out (Mem.only (M := [_, _, _, _]) HM14.out [2, 2, 2, 2] rfl)) rfl rfl
 ·have hpv : Hid (putV X node k known t = (X, (0, 0), 1)) := Lib.hid (putV_1 (by rw [hkb']; simp))
  have hnb := Lib.hid hnb'
  clear hnb'
  have hkb := Lib.hid hkb'
  clear hkb'
  refine wN [(0, 1), (1, 3), (2, 1), (3, 1), (4, 1), (5, 3), (6, 1), (7, 1), (8, 1)] (wT [0] ?_)
  refine wD1 1 [_, _, _, _, _, _] [_, _, _, _, _, _] Tryz.call56 (rnode_d node) HM8 [] fun W16 hm15 => ?_
  rw [hnb.out]
  have HM17 := Lib.hid hm15
  clear hm15
  refine wT [2, 3, 4] ?_
  refine wD1 5 [_, _, _, _, _, _] [_, _, _, _, _, _] Tryz.call57 (rkey_d k) HM17 [] fun W19 hm18 => ?_
  rw [hkb.out]
  have HM20 := Lib.hid hm18
  clear hm18
  refine wT [6, 7, 8] ?_
  refine wZ (wp_cond_true rfl (wp_seq (wN [(0, 1), (1, 3), (2, 1)] (wT [0] ?_))))
  refine wpS_storeA (i := 1) (L2 := [_, _, _, _, _]) (cs' := [_, _]) rfl (by rfl) rfl rfl rfl (by kernel_rfl) (by rfl) HM20.out 0 rfl rfl rfl rfl covS_nil rfl ?_
  rintro W22 hm21 -
  have HM23 := Lib.hid hm21
  clear hm21
  refine wT [2] ?_
  refine wZ (wp_ret ?_)
  refine block_ret (then_ret ?_)
  refine ret_cell_tmp rfl HM23.out 0 rfl rfl Tryz.underlying56 rfl (by kernel_rfl) rfl rfl ?_
  rw [hpv.out]
  exact does_ret (Mem.toRv s hs.out (Mem.only (M := [_, _, _, _]) HM23.out [2, 2, 2, 2] rfl)) rfl rfl
 ·have hk := Lib.hid hkb'
  have hnk : Hid (nodeE node = true ∧ keyB k = true) := Lib.hid ⟨hnb', hkb'⟩
  have hnb := Lib.hid hnb'
  clear hnb'
  have hkb := Lib.hid hkb'
  clear hkb'
  refine wN [(0, 1), (1, 3), (2, 1), (3, 1), (4, 1), (5, 3), (6, 1), (7, 1), (8, 1)] (wT [0] ?_)
  refine wD1 1 [_, _, _, _, _, _] [_, _, _, _, _, _] Tryz.call56 (rnode_d node) HM8 [] fun W25 hm24 => ?_
  rw [hnb.out]
  have HM26 := Lib.hid hm24
  clear hm24
  refine wT [2, 3, 4] ?_
  refine wD1 5 [_, _, _, _, _, _] [_, _, _, _, _, _] Tryz.call57 (rkey_d k) HM26 [] fun W28 hm27 => ?_
  rw [hkb.out]
  have HM29 := Lib.hid hm27
  clear hm27
  refine wT [6, 7, 8] ?_
  refine wZ (wp_cond_false rfl (wp_seq ?_))
  have hdd := hX.ok.dots
  by_cases hd1 : X.1.dots < 1000000
  ·have g1 : decide ((1000000 : Int) ≤ X.1.dots) = false := decide_eq_false (by omega)
   refine wN [(0, 1), (1, 1), (2, 1), (3, 1), (4, 1), (5, 1)] (wT [0, 1, 2] ?_)
   refine wM 3 (.int .i64 X.1.dots) (HM29.out.part1 2 rfl rvC_dots) Tryz.underlying3 ?_
   refine wT [4, 5] ?_
   refine wZ (wp_cond_false rfl (wp_seq ?_))
   cases hfl' : fullV X.1 k
   ·have hfl := Lib.hid hfl'
    clear hfl'
    refine wN [(0, 1), (1, 1), (2, 3), (3, 1)] (wT [0, 1] ?_)
    refine wD2 2 [_, _, _, _] [_, _, _, _, _, _] Tryz.call58 (rfull_d d dl X.1 hX.ok hl3 s hs.out k) HM29 [2, 2] fun W31 hm30 => ?_
    rw [hfl.out]
    have HM32 := Lib.hid hm30
    clear hm30
    refine wT [3] ?_
    refine wZ (wp_cond_false rfl (wp_skip (block_normal (then_normal (wp_seq (wN [(0, 1), (1, 1), (2, 1), (3, 1), (4, 1), (5, 1), (6, 1), (7, 3), (8, 3)] (wT [0, 1, 2, 3] ?_)))))))
    refine wM 4 (.int .i64 X.1.dots) (HM32.out.part1 0 rfl rvC_dots) Tryz.underlying3 ?_
    refine wT [5, 6] ?_
    refine wpS_alloc (i := 7) (dd := 12) (z := .agg #[.int .i64 0, .int .i64 0]) (cs := #[.int .i64 0, .int .i64 0]) rfl (by rfl) rfl (by kernel_rfl) rfl HM32.out covS_nil rfl ?_
    rintro b35 W34 hm33 -
    have HM36 := Lib.hid hm33
    clear hm33
    simp only [Act.put, List.setIfInBounds_toArray, List.set_cons_succ, List.set_cons_zero]
    refine wpS_storeA (i := 8) (L2 := [_, _, _, _, _, _]) (cs' := [_, _]) rfl (by rfl) rfl rfl rfl (by kernel_rfl) (by rfl) HM36.out 0 rfl rfl rfl rfl covS_nil rfl ?_
    rintro W38 hm37 -
    have HM39 := Lib.hid hm37
    clear hm37
    refine wZ (wp_seq ?_)
    obtain ⟨x, e, hxb'⟩ : ∃ a b, putBR (bagV X.1 k) known (node, X.1.dots + 1) t = (a, b) := ⟨_, _, rfl⟩
    have hxb := Lib.hid hxb'
    clear hxb'
    have hrd := Lib.hid (rd_bag hs.out hX.ok k)
    have hlo : Hid ((bagV X.1 k).v.length ≤ 4398046510976) := Lib.hid (Nat.le_trans (bagV_len hX.ok k) (by decide))
    refine wp_cut_F [13, 14, 44, 45, 46, 47, 48, 49, 50, 51, 52, 53] (fun vs W' => ∃ (bb : Nat) (pw : Option Addr) (cw : Nat), vs 13 = .pointer (some ⟨bb, 0, none⟩) ∧ vs 14 = .int .i64 e ∧ Mem [boxT bb (.cells (bgC x.k (.slice pw x.v.length cw)).toArray 43 (0, 0)), rowT elemV (.slice pw x.v.length cw) x.v, boxT b35 (.cells #[.int .i64 node, .int .i64 (X.1.dots + 1)] 56 (0, 0)), boxT b7 (.cells #[.int .i64 0, .int .i64 0] 56 (0, 0)), boxT d (.cells (rvC dl X.1.inc X.1.dots X.1.has X.1.ring (.slice s.rp X.1.ring.p.2.2.length s.rc) (.slice s.p s.ys.length s.c)).toArray 91 (0, 0)), rowT elemPx (.slice s.p s.ys.length s.c) s.ys, s.G, rlT dl X.2] H w W') ?_ ?_
    ·refine wp_region_taken [] (fun k => k ∈ ([b3, b35] : List Nat)) (by kernel_rfl) rfl rfl ?_
     have hm40 := HM39.out.drew
     have HM41 := Lib.hid hm40
     clear hm40
     refine wpT_takeS (i := 0) (by kernel_rfl) (by kernel_rfl) ?_
     refine wS [0] ?_
     refine wpS_nil ?_
     refine wpT_takeS (i := 1) (by kernel_rfl) (by kernel_rfl) ?_
     refine wS [1] ?_
     refine wpS_nil ?_
     refine wpT_takeS (i := 3) (by kernel_rfl) (by kernel_rfl) ?_
     refine wL2 3 (vcC (known)) (HM41.out.cells0 4 rfl) Tryz.underlying40 ?_
     refine wpS_nil ?_
     refine wpT_takeS (i := 4) (by kernel_rfl) (by kernel_rfl) ?_
     have Cb12 := Mem.cell HM41.out 0 rfl
     refine wS [4] ?_
     clear Cb12
     refine wpS_nil ?_
     refine wpT_takeS (i := 5) (by kernel_rfl) (by kernel_rfl) ?_
     refine wS [5] ?_
     refine wpS_nil ?_
     refine wpT_ready 2 [10] (by kernel_rfl) (allT_cons ?_ (allT_cons ?_ allT_nil))
     ·refine opT_S (by kernel_rfl) ?_
      refine wD2h (hS := (covS_box 2 rfl (covS_box 0 rfl covS_nil))) 2 [_, _, _, _, _] [_, _, _, _, _, _, _] Tryz.call38 (rbag_d d dl X.1 hX.ok hl3 s hs.out k) HM41 [1, 1] fun W43 HM45 => ?_
      refine wpS_nil ?_
      refine wpT_ready 6 [10] (by kernel_rfl) (allT_cons ?_ (allT_cons ?_ allT_nil))
      ·refine opT_S (by kernel_rfl) ?_
       refine wU4 (hS := (covS_box 4 rfl (covS_box 2 rfl covS_nil))) 6 [_, _, _, _, _, _] Tryz.call59 (rputBag_d s.G _ (bagV X.1 k) hrd.out hlo.out known node (X.1.dots + 1) t x e hxb.out) HM45 [5] fun u49 W47 hm46 => ?_
       obtain ⟨pw, cw, rfl, hm46q⟩ := Mem.bagE rfl hm46
       clear hm46
       have HM50 := Lib.hid hm46q
       clear hm46q
       refine wpS_nil ?_
       refine wpT_takeS (i := 7) (by kernel_rfl) (by kernel_rfl) ?_
       refine wS [7] ?_
       refine wpS_nil ?_
       refine wpT_takeS (i := 8) (by kernel_rfl) (by kernel_rfl) ?_
       refine wS [8] ?_
       refine wpS_nil ?_
       refine wpT_takeS (i := 9) (by kernel_rfl) (by kernel_rfl) ?_
       refine wS [9] ?_
       refine wpS_nil ?_
       refine wpT_ready 10 [] (by kernel_rfl) (allT_cons ?_ allT_nil)
       refine opT_S (by kernel_rfl) ?_
       refine wpS_alloc (i := 10) (dd := 13) (z := bgV noB.k (.slice none 0 0)) (cs := (bgC noB.k (.slice none 0 0)).toArray) rfl (by rfl) rfl (by kernel_rfl) rfl HM50.out (covS_box 6 rfl (covS_box 4 rfl covS_nil)) rfl ?_
       rintro b54 W53 hm52 hg51
       have HM55 := Lib.hid hm52
       clear hm52
       simp only [Act.put, List.setIfInBounds_toArray, List.set_cons_succ, List.set_cons_zero]
       refine wpS_nil ?_
       refine wpT_ready 11 [] (by kernel_rfl) (allT_cons ?_ allT_nil)
       refine opT_S (by kernel_rfl) ?_
       refine wpS_storeA (i := 11) (L2 := [_, _, _, _, _, _, _, _]) (cs' := bgC (x.k) (.slice pw x.v.length cw)) rfl (by rfl) rfl rfl rfl (by kernel_rfl) (bgC_one _ _ _) HM55.out 0 rfl rfl (by kernel_rfl) (by kernel_rfl) (covS_box 6 rfl (covS_box 4 rfl covS_nil)) rfl ?_
       rintro W58 hm57 hg56
       have HM59 := Lib.hid hm57
       clear hm57
       refine wpS_nil ?_
       refine wpT_takeS (i := 12) (by kernel_rfl) (by kernel_rfl) ?_
       refine wS [12] ?_
       refine wpS_nil ?_
       refine wpT_end (by kernel_rfl) ?_
       refine then_normal ?_
       refine ⟨by kernel_rfl, ?_⟩
       exact ⟨_, _, _, rfl, rfl, (Mem.only (M := [_, _, _, _, _, _, _, _]) HM59.out [0, 0, 3, 3, 1, 1, 0, 1] rfl)⟩
      ·refine opT_S (by kernel_rfl) ?_
       refine wpS_alloc (i := 10) (dd := 13) (z := bgV noB.k (.slice none 0 0)) (cs := (bgC noB.k (.slice none 0 0)).toArray) rfl (by rfl) rfl (by kernel_rfl) rfl HM45.out (covS_box 4 rfl (covS_box 2 rfl covS_nil)) rfl ?_
       rintro b63 W62 hm61 hg60
       have HM64 := Lib.hid hm61
       clear hm61
       simp only [Act.put, List.setIfInBounds_toArray, List.set_cons_succ, List.set_cons_zero]
       refine wpS_nil ?_
       refine wpT_ready 6 [] (by kernel_rfl) (allT_cons ?_ allT_nil)
       refine opT_S (by kernel_rfl) ?_
       refine wU4 (hS := (covS_box 5 rfl (covS_box 3 rfl covS_nil))) 6 [_, _, _, _, _, _, _] Tryz.call59 (rputBag_d s.G _ (bagV X.1 k) hrd.out hlo.out known node (X.1.dots + 1) t x e hxb.out) HM64 [6] fun u68 W66 hm65 => ?_
       obtain ⟨pw, cw, rfl, hm65q⟩ := Mem.bagE rfl hm65
       clear hm65
       have HM69 := Lib.hid hm65q
       clear hm65q
       refine wpS_nil ?_
       refine wpT_takeS (i := 7) (by kernel_rfl) (by kernel_rfl) ?_
       refine wS [7] ?_
       refine wpS_nil ?_
       refine wpT_takeS (i := 8) (by kernel_rfl) (by kernel_rfl) ?_
       refine wS [8] ?_
       refine wpS_nil ?_
       refine wpT_takeS (i := 9) (by kernel_rfl) (by kernel_rfl) ?_
       refine wS [9] ?_
       refine wpS_nil ?_
       refine wpT_ready 11 [] (by kernel_rfl) (allT_cons ?_ allT_nil)
       refine opT_S (by kernel_rfl) ?_
       refine wpS_storeA (i := 11) (L2 := [_, _, _, _, _, _, _, _]) (cs' := bgC (x.k) (.slice pw x.v.length cw)) rfl (by rfl) rfl rfl rfl (by kernel_rfl) (bgC_one _ _ _) HM69.out 2 rfl rfl (by kernel_rfl) (by kernel_rfl) (covS_box 6 rfl (covS_box 4 rfl covS_nil)) rfl ?_
       rintro W72 hm71 hg70
       have HM73 := Lib.hid hm71
       clear hm71
       refine wpS_nil ?_
       refine wpT_takeS (i := 12) (by kernel_rfl) (by kernel_rfl) ?_
       refine wS [12] ?_
       refine wpS_nil ?_
       refine wpT_end (by kernel_rfl) ?_
       refine then_normal ?_
       refine ⟨by kernel_rfl, ?_⟩
       exact ⟨_, _, _, rfl, rfl, (Mem.only (M := [_, _, _, _, _, _, _, _]) HM73.out [0, 0, 3, 3, 1, 1, 0, 1] rfl)⟩
     ·refine opT_S (by kernel_rfl) ?_
      refine wpS_alloc (i := 10) (dd := 13) (z := bgV noB.k (.slice none 0 0)) (cs := (bgC noB.k (.slice none 0 0)).toArray) rfl (by rfl) rfl (by kernel_rfl) rfl HM41.out (covS_box 4 rfl (covS_box 0 rfl covS_nil)) rfl ?_
      rintro b77 W76 hm75 hg74
      have HM78 := Lib.hid hm75
      clear hm75
      simp only [Act.put, List.setIfInBounds_toArray, List.set_cons_succ, List.set_cons_zero]
      refine wpS_nil ?_
      refine wpT_ready 2 [] (by kernel_rfl) (allT_cons ?_ allT_nil)
      refine opT_S (by kernel_rfl) ?_
      refine wD2h (hS := (covS_box 3 rfl (covS_box 1 rfl covS_nil))) 2 [_, _, _, _, _, _] [_, _, _, _, _, _, _, _] Tryz.call38 (rbag_d d dl X.1 hX.ok hl3 s hs.out k) HM78 [2, 2] fun W80 HM82 => ?_
      refine wpS_nil ?_
      refine wpT_ready 6 [] (by kernel_rfl) (allT_cons ?_ allT_nil)
      refine opT_S (by kernel_rfl) ?_
      refine wU4 (hS := (covS_box 5 rfl (covS_box 3 rfl covS_nil))) 6 [_, _, _, _, _, _, _] Tryz.call59 (rputBag_d s.G _ (bagV X.1 k) hrd.out hlo.out known node (X.1.dots + 1) t x e hxb.out) HM82 [6] fun u86 W84 hm83 => ?_
      obtain ⟨pw, cw, rfl, hm83q⟩ := Mem.bagE rfl hm83
      clear hm83
      have HM87 := Lib.hid hm83q
      clear hm83q
      refine wpS_nil ?_
      refine wpT_takeS (i := 7) (by kernel_rfl) (by kernel_rfl) ?_
      refine wS [7] ?_
      refine wpS_nil ?_
      refine wpT_takeS (i := 8) (by kernel_rfl) (by kernel_rfl) ?_
      refine wS [8] ?_
      refine wpS_nil ?_
      refine wpT_takeS (i := 9) (by kernel_rfl) (by kernel_rfl) ?_
      refine wS [9] ?_
      refine wpS_nil ?_
      refine wpT_ready 11 [] (by kernel_rfl) (allT_cons ?_ allT_nil)
      refine opT_S (by kernel_rfl) ?_
      refine wpS_storeA (i := 11) (L2 := [_, _, _, _, _, _, _, _]) (cs' := bgC (x.k) (.slice pw x.v.length cw)) rfl (by rfl) rfl rfl rfl (by kernel_rfl) (bgC_one _ _ _) HM87.out 4 rfl rfl (by kernel_rfl) (by kernel_rfl) (covS_box 6 rfl (covS_box 4 rfl covS_nil)) rfl ?_
      rintro W90 hm89 hg88
      have HM91 := Lib.hid hm89
      clear hm89
      refine wpS_nil ?_
      refine wpT_takeS (i := 12) (by kernel_rfl) (by kernel_rfl) ?_
      refine wS [12] ?_
      refine wpS_nil ?_
      refine wpT_end (by kernel_rfl) ?_
      refine then_normal ?_
      refine ⟨by kernel_rfl, ?_⟩
      exact ⟨_, _, _, rfl, rfl, (Mem.only (M := [_, _, _, _, _, _, _, _]) HM91.out [0, 0, 3, 3, 1, 1, 0, 1] rfl)⟩
    rintro vs W' ⟨bb, pw, cw, e13, e14, hm⟩
    simp only [putAll, List.map_cons, List.map_nil, Act.put, List.setIfInBounds_toArray, List.set_cons_succ, List.set_cons_zero]
    rw [e13, e14]
    clear e13 e14
    have HM92 := Lib.hid hm
    clear hm
    refine then_normal (wp_seq (wp_seq ?_))
    by_cases he : e = 0
    ·subst he
     have hlx : Hid (x.v.length ≤ 4398046510976) := Lib.hid (Nat.le_trans (putBR_len hxb.out) (by decide))
     refine wQ ?_
     refine wp_cond_true rfl ?_
     have HS93 := Mem.toRv s hs.out (Mem.only (M := [_, _, _, _, _, _, _, _]) HM92.out [4, 4, 4, 0, 0, 0, 0, 0] rfl)
     have HM94 := Lib.hid HS93
     clear HS93
     obtain ⟨Y, e2, hwv'⟩ : ∃ a b, writeV X (kbD (X.1.dots + 1) k x) = (a, b) := ⟨_, _, rfl⟩
     have hwv := Lib.hid hwv'
     clear hwv'
     refine wN [(0, 1), (1, 1), (2, 1), (3, 1), (4, 1), (5, 1), (6, 3), (7, 1)] ?_
     have Cb12 := Mem.cell HM94.out 3 rfl
     refine wT [0, 1, 2, 3] ?_
     clear Cb12
     refine wL 4 (bgC (x.k) (.slice pw x.v.length cw)) (HM94.out.part 1 rfl (bgC_all)) Tryz.underlying43 ?_
     refine wR 5 (v := ddV (kbD (X.1.dots + 1) k x) (.slice pw x.v.length cw) (.slice none 0 0)) (by kernel_rfl) ?_
     refine wD2h 6 [_, _, _] [_, _, _, _, _] Tryz.call50 (rwrite_e hX ⟨rowT_reads, hlx.out, srcNil _, Nat.zero_le _⟩ (.inl rfl) hwv.out) HM94 [0, 4, 1] fun W96 HM97 => ?_
     refine wT [7] ?_
     refine wZ (wp_seq (wp_seq ?_))
     by_cases he2 : e2 = 0
     ·subst he2
      have hpv : Hid (putV X node k known t = (Y, (node, X.1.dots + 1), 0)) := Lib.hid (putV_0 hnk.out hd1 hfl.out hxb.out hwv.out)
      refine wQ ?_
      refine wp_cond_false rfl (wp_skip (then_normal (wp_seq (wN [(0, 1), (1, 3), (2, 1)] ?_))))
      have Cb12 := Mem.cell HM97.out 3 rfl
      refine wT [0] ?_
      clear Cb12
      refine wpS_storeA (i := 1) (L2 := [_, _, _, _]) (cs' := [_, _]) rfl (by rfl) rfl rfl rfl (by kernel_rfl) (by rfl) HM97.out 4 rfl rfl rfl rfl covS_nil rfl ?_
      rintro W99 hm98 -
      have HM100 := Lib.hid hm98
      clear hm98
      refine wT [2] ?_
      refine wZ (wp_ret ?_)
      refine ret_cell_tmp rfl HM100.out 0 rfl rfl Tryz.underlying56 rfl (by kernel_rfl) rfl rfl ?_
      rw [hpv.out]
      exact does_ret (Mem.only (M := [_, _]) HM100.out [1, 1] rfl) rfl rfl
     ·have hpv : Hid (putV X node k known t = (X, (0, 0), e2)) := Lib.hid (putV_w hnk.out hd1 hfl.out hxb.out hwv.out he2)
      have hne := Lib.hid he2
      have g3 : (e2 != 0) = true := bne_iff_ne.2 he2
      clear he2
      refine wQ ?_
      refine wp_cond_true rfl (wp_seq (wN [(0, 1), (1, 1), (2, 3), (3, 1)] (wT [0, 1] ?_)))
      refine wpS_storeA (i := 2) (L2 := [_, _, _, _]) (cs' := [_, _]) rfl (by rfl) rfl rfl rfl (by kernel_rfl) (by rfl) HM97.out 4 rfl rfl rfl rfl covS_nil rfl ?_
      rintro W102 hm101 -
      have HM103 := Lib.hid hm101
      clear hm101
      refine wT [3] ?_
      refine wZ (wp_ret (then_ret ?_))
      refine ret_cell_tmp rfl HM103.out 0 rfl rfl Tryz.underlying56 rfl (by kernel_rfl) rfl rfl ?_
      obtain rfl := writeV_no hwv.out hne.out
      rw [hpv.out]
      exact does_ret (Mem.only (M := [_, _]) HM103.out [1, 1] rfl) rfl rfl
    ·have hpv : Hid (putV X node k known t = (X, (0, 0), e)) := Lib.hid (putV_b hnk.out hd1 hfl.out hxb.out he)
     have g2 : (e == 0) = false := beq_eq_false_iff_ne.2 he
     have g2' : (e != 0) = true := bne_iff_ne.2 he
     replace he := Lib.hid he
     refine wQ ?_
     refine wp_cond_false rfl (wp_skip (then_normal (wp_seq (wp_seq ?_))))
     skip
     ·skip
      refine wQ ?_
      refine wp_cond_true rfl (wp_seq (wN [(0, 1), (1, 1), (2, 3), (3, 1)] (wT [0, 1] ?_)))
      refine wpS_storeA (i := 2) (L2 := [_, _, _, _, _, _, _]) (cs' := [_, _]) rfl (by rfl) rfl rfl rfl (by kernel_rfl) (by rfl) HM92.out 3 rfl rfl rfl rfl covS_nil rfl ?_
      rintro W105 hm104 -
      have HM106 := Lib.hid hm104
      clear hm104
      refine wT [3] ?_
      refine wZ (wp_ret (then_ret ?_))
      refine ret_cell_tmp rfl HM106.out 0 rfl rfl Tryz.underlying56 rfl (by kernel_rfl) rfl rfl ?_
      rw [hpv.out]
      exact does_ret (Mem.toRv s hs.out (Mem.only (M := [_, _, _, _]) HM106.out [4, 4, 4, 4] rfl)) rfl rfl
   ·have hpv : Hid (putV X node k known t = (X, (0, 0), 5)) := Lib.hid (putV_5 hnk.out hd1 hfl')
    have hfl := Lib.hid hfl'
    clear hfl'
    refine wN [(0, 1), (1, 1), (2, 3), (3, 1)] (wT [0, 1] ?_)
    refine wD2 2 [_, _, _, _] [_, _, _, _, _, _] Tryz.call58 (rfull_d d dl X.1 hX.ok hl3 s hs.out k) HM29 [2, 2] fun W108 hm107 => ?_
    rw [hfl.out]
    have HM109 := Lib.hid hm107
    clear hm107
    refine wT [3] ?_
    refine wZ (wp_cond_true rfl (wp_seq (wN [(0, 1), (1, 3), (2, 1)] (wT [0] ?_))))
    refine wpS_storeA (i := 1) (L2 := [_, _, _, _, _]) (cs' := [_, _]) rfl (by rfl) rfl rfl rfl (by kernel_rfl) (by rfl) HM109.out 2 rfl rfl rfl rfl covS_nil rfl ?_
    rintro W111 hm110 -
    have HM112 := Lib.hid hm110
    clear hm110
    refine wT [2] ?_
    refine wZ (wp_ret ?_)
    refine block_ret (then_ret ?_)
    refine ret_cell_tmp rfl HM112.out 0 rfl rfl Tryz.underlying56 rfl (by kernel_rfl) rfl rfl ?_
    rw [hpv.out]
    exact does_ret (Mem.toRv s hs.out (Mem.only (M := [_, _, _, _]) HM112.out [1, 1, 2, 2] rfl)) rfl rfl
  ·have hpv : Hid (putV X node k known t = (X, (0, 0), 6)) := Lib.hid (putV_6 hnk.out hd1)
   have g1 : decide ((1000000 : Int) ≤ X.1.dots) = true := decide_eq_true (by omega)
   refine wN [(0, 1), (1, 1), (2, 1), (3, 1), (4, 1), (5, 1)] (wT [0, 1, 2] ?_)
   refine wM 3 (.int .i64 X.1.dots) (HM29.out.part1 2 rfl rvC_dots) Tryz.underlying3 ?_
   refine wT [4, 5] ?_
   refine wZ (wp_cond_true rfl (wp_seq (wN [(0, 1), (1, 3), (2, 1)] (wT [0] ?_))))
   refine wpS_storeA (i := 1) (L2 := [_, _, _, _, _]) (cs' := [_, _]) rfl (by rfl) rfl rfl rfl (by kernel_rfl) (by rfl) HM29.out 0 rfl rfl rfl rfl covS_nil rfl ?_
   rintro W114 hm113 -
   have HM115 := Lib.hid hm113
   clear hm113
   refine wT [2] ?_
   refine wZ (wp_ret ?_)
   refine block_ret (then_ret ?_)
   refine ret_cell_tmp rfl HM115.out 0 rfl rfl Tryz.underlying56 rfl (by kernel_rfl) rfl rfl ?_
   rw [hpv.out]
   exact does_ret (Mem.toRv s hs.out (Mem.only (M := [_, _, _, _]) HM115.out [2, 2, 2, 2] rfl)) rfl rfl
set_option maxHeartbeats 4000000 in
set_option maxRecDepth 100000 in
theorem rdrop_d (d dl : Nat) (X : Vl2) (hX : Kept X) (n : Int) : Does Tryz.prog 24 #[.pointer (some ⟨d, 0, none⟩), .int .i64 n] [rvT d dl X.1, rlT dl X.2] (.int .i64 (dropV X n).2) [rvT d dl (dropV X n).1.1, rlT dl (dropV X n).1.2] := by
 intro w H hp
 have HM0 := Lib.hid (mem_refl hp)
 clear hp
 obtain ⟨s, hs', HM1'⟩ := Mem.rv HM0.out
 clear HM0
 have HM0 := Lib.hid HM1'
 clear HM1'
 have hs := Lib.hid hs'
 clear hs'
 have hl3 : X.1.b.length ≤ 3000 := Nat.le_trans hX.len (Nat.le_trans hX.lg.len hX.lg.room)
 have hyl : s.ys.length ≤ 3000 := by rw [hs.out.len]; exact hl3
 go_enter Tryz.func24, Tryz.ntmps24
 refine wp_seq (wQ ?_)
 refine wp_seq (wp_seq ?_)
 by_cases h1 : n < 0 <;> by_cases h2 : 16 ≤ n
 ·have g1 : decide (n < (0 : Int)) = true := decide_eq_true h1
  have g2 : decide ((16 : Int) ≤ n) = true := decide_eq_true h2
  have hpv : Hid (dropV X n = (X, 1)) := Lib.hid (if_neg (by omega))
  replace h1 := Lib.hid h1
  replace h2 := Lib.hid h2
  refine wQ ?_
  refine wp_cond_true rfl (wp_seq (wQ ?_))
  refine wp_ret (then_ret (bodyPost_ret (results_tmp rfl _ _ _) rfl ?_))
  rw [hpv.out]
  exact does_ret (Mem.toRv s hs.out (Mem.only (M := [_, _, _, _]) HM0.out [0, 0, 0, 0] rfl)) rfl rfl
 ·have g1 : decide (n < (0 : Int)) = true := decide_eq_true h1
  have g2 : decide ((16 : Int) ≤ n) = false := decide_eq_false h2
  have hpv : Hid (dropV X n = (X, 1)) := Lib.hid (if_neg (by omega))
  replace h1 := Lib.hid h1
  replace h2 := Lib.hid h2
  refine wQ ?_
  refine wp_cond_true rfl (wp_seq (wQ ?_))
  refine wp_ret (then_ret (bodyPost_ret (results_tmp rfl _ _ _) rfl ?_))
  rw [hpv.out]
  exact does_ret (Mem.toRv s hs.out (Mem.only (M := [_, _, _, _]) HM0.out [0, 0, 0, 0] rfl)) rfl rfl
 ·have g1 : decide (n < (0 : Int)) = false := decide_eq_false h1
  have g2 : decide ((16 : Int) ≤ n) = true := decide_eq_true h2
  have hpv : Hid (dropV X n = (X, 1)) := Lib.hid (if_neg (by omega))
  replace h1 := Lib.hid h1
  replace h2 := Lib.hid h2
  refine wQ ?_
  refine wp_cond_true rfl (wp_seq (wQ ?_))
  refine wp_ret (then_ret (bodyPost_ret (results_tmp rfl _ _ _) rfl ?_))
  rw [hpv.out]
  exact does_ret (Mem.toRv s hs.out (Mem.only (M := [_, _, _, _]) HM0.out [0, 0, 0, 0] rfl)) rfl rfl
 ·have g1 : decide (n < (0 : Int)) = false := decide_eq_false h1
  have g2 : decide ((16 : Int) ≤ n) = false := decide_eq_false h2
  have hn : Hid (0 ≤ n ∧ n < 16) := Lib.hid ⟨by omega, by omega⟩
  replace h1 := Lib.hid h1
  replace h2 := Lib.hid h2
  refine wQ ?_
  refine wp_cond_false rfl (wp_skip (then_normal (wp_seq (wp_seq ?_))))
  by_cases hz : keysV X.1 n = []
  ·have hpv : Hid (dropV X n = (X, 0)) := Lib.hid (dropV_e hn.out hz)
   have hle : (keysV X.1 n).length = 0 := by rw [hz]; rfl
   have g3 : (((keysV X.1 n).length : Int) == 0) = true := beq_iff_eq.2 (by omega)
   have g3' : ((keysV X.1 n).length == 0) = true := beq_iff_eq.2 hle
   refine wN [(0, 1), (1, 1), (2, 3), (3, 1), (4, 1)] (wT [0, 1] ?_)
   refine wU2 2 [_, _] Tryz.call49 (rkeys_d d dl X.1 hX.ok hl3 s hs.out n) HM0 [0, 0] fun u3 W2 hm1 => ?_
   obtain ⟨pk, ck, rfl, hm1q⟩ := Mem.texts rfl hm1
   clear hm1
   have HM4 := Lib.hid hm1q
   clear hm1q
   refine wT [3, 4] ?_
   refine wZ (wp_cond_true rfl (wp_seq (wQ ?_)))
   refine wp_ret (then_ret (bodyPost_ret (results_tmp rfl _ _ _) rfl ?_))
   rw [hpv.out]
   exact does_ret (Mem.toRv s hs.out (Mem.only (M := [_, _, _, _]) HM4.out [1, 1, 1, 1] rfl)) rfl rfl
  ·have hmw : Hid (dropV X n = writeV X (kdD n)) := Lib.hid (dropV_w hn.out hz)
   have hle := List.length_pos_iff.2 hz
   have g3 : (((keysV X.1 n).length : Int) == 0) = false := beq_eq_false_iff_ne.2 (by omega)
   have g3' : ((keysV X.1 n).length == 0) = false := beq_eq_false_iff_ne.2 (by omega)
   clear hz
   refine wN [(0, 1), (1, 1), (2, 3), (3, 1), (4, 1)] (wT [0, 1] ?_)
   refine wU2 2 [_, _] Tryz.call49 (rkeys_d d dl X.1 hX.ok hl3 s hs.out n) HM0 [0, 0] fun u7 W6 hm5 => ?_
   obtain ⟨pk, ck, rfl, hm5q⟩ := Mem.texts rfl hm5
   clear hm5
   have HM8 := Lib.hid hm5q
   clear hm5q
   refine wT [3, 4] ?_
   refine wZ (wp_cond_false rfl (wp_skip (then_normal (wp_seq ?_))))
   have HS9 := Mem.toRv s hs.out (Mem.only (M := [_, _, _, _, _]) HM8.out [1, 1, 1, 0, 0] rfl)
   have HM10 := Lib.hid HS9
   clear HS9
   have HE11 : Mem (listT [] :: _) H w _ := Mem.addNil HM10.out
   have HM12 := Lib.hid HE11
   clear HE11
   obtain ⟨Y, e2, hwv'⟩ : ∃ a c, writeV X (kdD n) = (a, c) := ⟨_, _, rfl⟩
   have hwv := Lib.hid hwv'
   clear hwv'
   have hpv : Hid (dropV X n = (Y, e2)) := Lib.hid (hmw.out.trans hwv.out)
   refine wN [(0, 1), (1, 1), (2, 1), (3, 3), (4, 1)] (wT [0, 1] ?_)
   refine wR 2 (v := ddV (kdD n) (.slice none 0 0) (.slice none 0 0)) (by kernel_rfl) ?_
   refine wD2h 3 [_] [_, _, _] Tryz.call50 (rwrite_e hX ddr_kd (.inr rfl) hwv.out) HM12 [1, 2, 0] fun W14 HM15 => ?_
   refine wT [4] ?_
   refine wZ (wp_ret (bodyPost_ret (results_tmp rfl _ _ _) rfl ?_))
   rw [hpv.out]
   exact does_ret (Mem.only (M := [_, _]) HM15.out [0, 0] rfl) rfl rfl
end Go.Proofs.YtcbnhakfijiioaaGreat
