/- The landed vault: deeds applied, and written. -/
import Derived.Test.YtcchkkdbagpgjaaGreatVtH
import Derived.Test.YtcchkkdbagpgjaaGreatPA
namespace Go.Proofs.YtcchkkdbagpgjaaGreat
open Go Go.RowKit Go.BigFrame
set_option maxHeartbeats 4000000 in
set_option maxRecDepth 100000 in
theorem vcopied_d (R : At) (va : Value) (a : Rg) (ha : Reads elemI R va a.p.2.2) (la : a.p.2.2.length ≤ 1000) : DoesU Tryz.prog 125 #[rgV a va] [R] (fun u => [ringT u a, R]) := by
 intro w H hp
 have HM0 := Lib.hid (mem_refl hp)
 clear hp
 obtain ⟨pa, ca, rfl⟩ := row_form (Mem.src HM0.out 0 rfl ha)
 go_enter Tryz.func125, Tryz.ntmps125
 refine wp_seq (wN [(0, 3), (1, 3)] ?_)
 refine wBh 0 HM0 fun b3 W2 HM4 => ?_
 refine wpS_alloc (i := 1) (dd := 2) (z := rgV noR (.slice none 0 0)) (cs := (rgC noR (.slice none 0 0)).toArray) rfl (by rfl) rfl (by kernel_rfl) rfl HM4.out covS_nil rfl ?_
 rintro b7 W6 hm5 -
 have HM8 := Lib.hid hm5
 clear hm5
 simp only [Act.put, List.setIfInBounds_toArray, List.set_cons_succ, List.set_cons_zero]
 refine wZ (wp_seq (wN [(0, 1), (1, 1), (2, 1), (3, 3), (4, 1), (5, 1), (6, 3)] (wT [0, 1] ?_)))
 refine wM 2 (.slice pa a.p.2.2.length ca) (HM8.out.sub1 1 rfl (rgC_pl 2 _ rfl)) Tryz.underlying42 ?_
 refine wpS_doesU1 (i := 3) (d := some 6) (rem := [_, _]) rfl (by rfl) rfl Tryz.call124 (clone_d R _ a.p.2.2 ha la) rfl HM8.out [2] rfl covS_nil (fun _ => rfl) rfl ?_
 rintro u11 W10 hm9 -
 obtain ⟨vp, vc, rfl⟩ := row_form (Mem.src hm9 0 rfl rowT_reads)
 have HM12 := Lib.hid hm9
 clear hm9
 simp only [Act.put, List.setIfInBounds_toArray, List.set_cons_succ, List.set_cons_zero]
 refine wT [4, 5] ?_
 refine wpS_store1 (i := 6) (v := .slice _ _ _) (L2 := [_, _, _]) (cs' := rgC (a) (.slice vp a.p.2.2.length vc)) rfl (by rfl) rfl rfl rfl rfl (by kernel_rfl) rfl HM12.out 3 rfl rfl (by kernel_rfl) (rgC_setSl _ _ _) covS_nil rfl ?_
 rintro W14 hm13 -
 have HM15 := Lib.hid hm13
 clear hm13
 refine wZ (wp_seq (wN [(0, 1), (1, 3)] ?_))
 refine wL 0 (rgC (a) (.slice vp a.p.2.2.length vc)) (HM15.out.sub 0 rfl (fun k u h => by rw [Nat.zero_add]; exact h)) Tryz.underlying49 ?_
 refine wpS_storeA (i := 1) (L2 := [_, _, _]) (cs' := rgC (a) (.slice vp a.p.2.2.length vc)) rfl (by rfl) rfl rfl rfl (by kernel_rfl) (rgC_one _ _ _) HM15.out 3 rfl rfl (by kernel_rfl) (by kernel_rfl) covS_nil rfl ?_
 rintro W17 hm16 -
 have HM18 := Lib.hid hm16
 clear hm16
 refine wZ (wp_ret ?_)
 refine ret_cell rfl HM18.out 0 rfl rfl Tryz.underlying49 rfl (by kernel_rfl) rfl ?_
 exact doesU_ret (post := fun u => [ringT u a, R]) (Mem.toRing (Mem.only (M := [_, _]) HM18.out [2, 2] rfl)) rfl
set_option maxHeartbeats 4000000 in
set_option maxRecDepth 100000 in
theorem vinc_d (A : At) (dv dl : Nat) (S : Vt) (_hV : VtOk S) (n : Int) (key : ByteArray) (b : Bg) (r : Rg) (part : Int) (vx rx : Value) (hA : DdR A (⟨1, n, key, b, r, part⟩ : Dd) vx rx) : Does Tryz.prog 80 #[.pointer (some ⟨dv, 0, none⟩), ddV (⟨1, n, key, b, r, part⟩ : Dd) vx rx] [vtT dv dl S, A] (.tuple #[]) [vtT dv dl (countD S (⟨1, n, key, b, r, part⟩ : Dd))] := by
 intro w H hp
 have HM0 := Lib.hid (mem_refl hp)
 clear hp
 obtain ⟨s, hs', HM1⟩ := Mem.vt HM0.out
 clear HM0
 have HM0 := Lib.hid HM1
 clear HM1
 have hs := Lib.hid hs'
 clear hs'
 have hv : Reads elemV A vx b.v := hA.v
 have hr : Reads elemI A rx r.p.2.2 := hA.r
 have hlr : r.p.2.2.length ≤ 1000 := hA.lr
 clear hA
 obtain ⟨pv, cv, rfl⟩ := row_form (Mem.src HM0.out 3 rfl hv)
 obtain ⟨pr, cr, rfl⟩ := row_form (Mem.src HM0.out 3 rfl hr)
 go_enter Tryz.func80, Tryz.ntmps80
 refine wp_seq (wN [(0, 3)] ?_)
 refine wBh 0 HM0 fun b3 W2 HM4 => ?_
 refine wZ (wN [(0, 1), (1, 1), (2, 1), (3, 1), (4, 1), (5, 3)] (wT [0, 1] ?_))
 refine wM 2 (.int .i64 n) (HM4.out.part1 0 rfl rfl) Tryz.underlying3 ?_
 refine wT [3, 4] ?_
 refine wpS_store1 (i := 5) (v := _) (L2 := [_, _, _, _]) (cs' := vtC dl n S.ring (.slice s.rp S.ring.p.2.2.length s.rc) S.has S.dots (fun i => some (s.bk i))) rfl (by rfl) rfl rfl rfl rfl (by kernel_rfl) rfl HM4.out 1 rfl rfl (by kernel_rfl) (vtC_setInc _) covS_nil rfl ?_
 rintro W6 hm5 -
 have HM7 := Lib.hid hm5
 clear hm5
 refine wpS_nil ?_
 refine bodyPost_end (results_none rfl _ _ _) rfl ?_
 rw [countD_1 rfl]
 exact does_ret (Mem.toVt (S := ⟨n, S.has, S.ring, S.dots, S.b⟩) s (hs.out.inc rfl rfl) (Mem.only (M := [_, _, _]) HM7.out [0, 1, 1] rfl)) rfl rfl
set_option maxHeartbeats 4000000 in
set_option maxRecDepth 100000 in
theorem vring_d (A : At) (dv dl : Nat) (S : Vt) (_hV : VtOk S) (n : Int) (key : ByteArray) (b : Bg) (r : Rg) (part : Int) (vx rx : Value) (hA : DdR A (⟨2, n, key, b, r, part⟩ : Dd) vx rx) : Does Tryz.prog 81 #[.pointer (some ⟨dv, 0, none⟩), ddV (⟨2, n, key, b, r, part⟩ : Dd) vx rx] [vtT dv dl S, A] (.tuple #[]) [vtT dv dl (countD S (⟨2, n, key, b, r, part⟩ : Dd))] := by
 intro w H hp
 have HM0 := Lib.hid (mem_refl hp)
 clear hp
 obtain ⟨s, hs', HM1⟩ := Mem.vt HM0.out
 clear HM0
 have HM0 := Lib.hid HM1
 clear HM1
 have hs := Lib.hid hs'
 clear hs'
 have hv : Reads elemV A vx b.v := hA.v
 have hr : Reads elemI A rx r.p.2.2 := hA.r
 have hlr : r.p.2.2.length ≤ 1000 := hA.lr
 clear hA
 obtain ⟨pv, cv, rfl⟩ := row_form (Mem.src HM0.out 3 rfl hv)
 obtain ⟨pr, cr, rfl⟩ := row_form (Mem.src HM0.out 3 rfl hr)
 go_enter Tryz.func81, Tryz.ntmps81
 refine wp_seq (wN [(0, 3)] ?_)
 refine wBh 0 HM0 fun b3 W2 HM4 => ?_
 refine wZ (wN [(0, 1), (1, 1), (2, 1), (3, 1), (4, 3), (5, 1), (6, 1), (7, 3), (8, 1), (9, 1), (10, 3)] (wT [0, 1, 2] ?_))
 refine wL 3 (rgC ((⟨2, n, key, b, r, part⟩ : Dd)).r (.slice pr r.p.2.2.length cr)) (HM4.out.part 0 rfl (ddC_ring)) Tryz.underlying49 ?_
 refine wpS_doesU1 (i := 4) (d := some 8) (rem := [_, _, _, _]) rfl (by rfl) rfl Tryz.call125 (vcopied_d A _ r hr hlr) rfl HM4.out [4] rfl covS_nil (fun _ => rfl) rfl ?_
 rintro u7 W6 hm5 -
 obtain ⟨pt, ct, rfl, hm5q⟩ := Mem.ring rfl hm5
 clear hm5
 have HM8 := Lib.hid hm5q
 clear hm5q
 simp only [Act.put, List.setIfInBounds_toArray, List.set_cons_succ, List.set_cons_zero]
 refine wT [5, 6] ?_
 refine wpS_storeA (i := 7) (L2 := [_, _, _, _, _]) (cs' := vtC dl S.inc r (.slice pt r.p.2.2.length ct) S.has S.dots (fun i => some (s.bk i))) rfl (by rfl) rfl rfl rfl (by kernel_rfl) (rgC_one _ _ _) HM8.out 3 rfl rfl (by kernel_rfl) (vtC_setRing _ _) covS_nil rfl ?_
 rintro W10 hm9 -
 have HM11 := Lib.hid hm9
 clear hm9
 refine wT [8, 9] ?_
 refine wpS_store1 (i := 10) (v := _) (L2 := [_, _, _, _, _]) (cs' := vtC dl S.inc r (.slice pt r.p.2.2.length ct) true S.dots (fun i => some (s.bk i))) rfl (by rfl) rfl rfl rfl rfl (by kernel_rfl) rfl HM11.out 0 rfl rfl (by kernel_rfl) (vtC_setHas _) covS_nil rfl ?_
 rintro W13 hm12 -
 have HM14 := Lib.hid hm12
 clear hm12
 refine wpS_nil ?_
 refine bodyPost_end (results_none rfl _ _ _) rfl ?_
 rw [countD_2 rfl]
 exact does_ret (Mem.toVt (S := ⟨S.inc, true, r, S.dots, S.b⟩) ⟨pt, ct, s.bk, s.ms, listT [rowT elemI (.slice pt r.p.2.2.length ct) r.p.2.2, s.G]⟩ (VsOk.newRing (T := ⟨S.inc, true, r, S.dots, S.b⟩) hs.out rfl rowT_reads) (Mem.only (M := [_, _, _]) (Mem.two (Mem.only (M := [_, _, _, _]) HM14.out [1, 4, 0, 2] rfl)) [1, 1, 0] rfl)) rfl rfl
set_option maxHeartbeats 4000000 in
set_option maxRecDepth 100000 in
theorem vlay_d (A : At) (dv dl : Nat) (S : Vt) (_hV : VtOk S) (n : Int) (key : ByteArray) (b : Bg) (r : Rg) (part : Int) (vx rx : Value) (hA : DdR A (⟨3, n, key, b, r, part⟩ : Dd) vx rx) (hk : keyB key = true) : Does Tryz.prog 82 #[.pointer (some ⟨dv, 0, none⟩), ddV (⟨3, n, key, b, r, part⟩ : Dd) vx rx] [vtT dv dl S, A] (.tuple #[]) [vtT dv dl (countD S (⟨3, n, key, b, r, part⟩ : Dd))] := by
 intro w H hp
 have HM0 := Lib.hid (mem_refl hp)
 clear hp
 obtain ⟨s, hs', HM1⟩ := Mem.vt HM0.out
 clear HM0
 have HM0 := Lib.hid HM1
 clear HM1
 have hs := Lib.hid hs'
 clear hs'
 have hv : Reads elemV A vx b.v := hA.v
 have hr : Reads elemI A rx r.p.2.2 := hA.r
 have hlr : r.p.2.2.length ≤ 1000 := hA.lr
 clear hA
 obtain ⟨pv, cv, rfl⟩ := row_form (Mem.src HM0.out 3 rfl hv)
 obtain ⟨pr, cr, rfl⟩ := row_form (Mem.src HM0.out 3 rfl hr)
 have HM1 := Mem.mapOut (pK_lt hk) (Mem.only (M := [_, _, _, _]) HM0.out [1, 0, 0, 0] rfl)
 clear HM0
 have HM0 := Lib.hid HM1
 clear HM1
 go_enter Tryz.func82, Tryz.ntmps82
 refine wp_seq (wN [(0, 3)] ?_)
 refine wBh 0 HM0 fun b3 W2 HM4 => ?_
 refine wZ (wp_seq ?_)
 refine wp_region_M (fun k => k ∈ ([b3] : List Nat)) [(0, 0), (1, 1), (2, 1), (4, 0), (5, 0), (8, 0), (9, 2), (10, 0), (11, 2), (3, 3), (6, 1), (7, 1), (12, 3)] (by kernel_rfl) (by kernel_rfl) HM4.out ?_
 intro W5 hm6
 have HM7 := Lib.hid hm6
 clear hm6
 refine wA [0] ?_
 refine wT [1] ?_
 refine wM 2 (.string key) (HM7.out.part1 0 rfl rfl) Tryz.underlying9 ?_
 refine wA [4, 5, 8] ?_
 refine wM2 9 (.string key) (HM7.out.part1 0 rfl rfl) Tryz.underlying9 ?_
 refine wA [10] ?_
 refine wL2 11 (bgC ((⟨3, n, key, b, r, part⟩ : Dd)).b.k (.slice pv b.v.length cv)) (HM7.out.part 0 rfl (ddC_bag)) Tryz.underlying41 ?_
 refine wpS_does1 (i := 3) (d := some 7) (rem := [_, _, _, _, _, _]) (out := [_, _, _, _, _, _]) rfl (by rfl) rfl Tryz.call36 (spof_d key hk) rfl HM7.out [] rfl (covS_box 0 rfl covS_nil) rfl rfl ?_
 rintro W9 hm8 hg10
 have HM11 := Lib.hid hm8
 clear hm8
 simp only [Act.put, List.setIfInBounds_toArray, List.set_cons_succ, List.set_cons_zero]
 refine wR 6 (run_addrMp (j := pK key) (pK_lt hk) rfl rfl rfl) ?_
 refine wM 7 (.map (some (s.bk (pK key)))) (HM11.out.part1 3 rfl (vtC_map (pK_lt hk))) Tryz.underlying89 ?_
 refine wpS_putM (i := 12) (k := key) (v := (⟨b, pv, b.v.length, cv⟩ : Hv)) (L2 := [_, _, _, _, _]) Tryz.underlying89 rfl (by rfl) rfl rfl rfl rfl HM11.out 1 rfl rfl (covS_box 0 rfl covS_nil) rfl ?_
 rintro W13 hm12 hg14
 have HM15 := Lib.hid hm12
 clear hm12
 refine wZ ?_
 refine wp_region_M (fun k => k ∈ ([] : List Nat)) [(0, 1), (1, 1), (2, 1), (3, 1), (4, 1), (5, 1), (6, 1), (7, 1), (8, 1), (9, 1), (10, 3)] (by kernel_rfl) (by kernel_rfl) HM15.out ?_
 intro W16 hm17
 have HM18 := Lib.hid hm17
 clear hm17
 refine wT [0, 1, 2, 3] ?_
 refine wM 4 (.int .i64 S.dots) (HM18.out.part1 3 rfl vtC_dots) Tryz.underlying3 ?_
 refine wT [5] ?_
 refine wM 6 (.int .i64 n) (HM18.out.part1 1 rfl rfl) Tryz.underlying3 ?_
 refine wT [7, 8, 9] ?_
 refine wpS_store1 (i := 10) (v := _) (L2 := [_, _, _, _, _]) (cs' := vtC dl S.inc S.ring (.slice s.rp S.ring.p.2.2.length s.rc) S.has (max S.dots n) (fun i => some (s.bk i))) rfl (by rfl) rfl rfl rfl rfl (by kernel_rfl) rfl HM18.out 3 rfl rfl (by kernel_rfl) (vtC_setDots _) covS_nil rfl ?_
 rintro W20 hm19 -
 have HM21 := Lib.hid hm19
 clear hm19
 refine wpS_nil ?_
 refine bodyPost_end (results_none rfl _ _ _) rfl ?_
 rw [countD_3 rfl]
 exact does_ret (Mem.toVt (S := ⟨S.inc, S.has, S.ring, max S.dots n, putK key b S.b⟩) ⟨s.rp, s.rc, s.bk, setMs s.ms (pK key) ((s.ms (pK key)).put key ⟨b, pv, b.v.length, cv⟩), listT [A, s.G]⟩ (VsOk.put (T := ⟨S.inc, S.has, S.ring, max S.dots n, putK key b S.b⟩) hs.out hk rfl rfl hv) (Mem.only (M := [_, _, _]) (Mem.two (Mem.only (M := [_, _, _, _]) (Mem.mapIn (pK_lt hk) (Mem.only (M := [_, _, _, _, _]) HM21.out [1, 2, 0, 1, 1] rfl)) [3, 2, 1, 0] rfl)) [1, 1, 0] rfl)) rfl rfl
set_option maxHeartbeats 4000000 in
set_option maxRecDepth 100000 in
theorem vdropD_d (A : At) (dv dl : Nat) (S : Vt) (hV : VtOk S) (n : Int) (key : ByteArray) (b : Bg) (r : Rg) (j : Nat) (hj : j < 16) (vx rx : Value) (hA : DdR A (⟨4, n, key, b, r, (j : Int)⟩ : Dd) vx rx) : Does Tryz.prog 83 #[.pointer (some ⟨dv, 0, none⟩), ddV (⟨4, n, key, b, r, (j : Int)⟩ : Dd) vx rx] [vtT dv dl S, A] (.tuple #[]) [vtT dv dl (countD S (⟨4, n, key, b, r, (j : Int)⟩ : Dd))] := by
 intro w H hp
 have HM0 := Lib.hid (mem_refl hp)
 clear hp
 obtain ⟨s, hs', HM1⟩ := Mem.vt HM0.out
 clear HM0
 have HM0 := Lib.hid HM1
 clear HM1
 have hs := Lib.hid hs'
 clear hs'
 have hv : Reads elemV A vx b.v := hA.v
 have hr : Reads elemI A rx r.p.2.2 := hA.r
 have hlr : r.p.2.2.length ≤ 1000 := hA.lr
 clear hA
 obtain ⟨pv, cv, rfl⟩ := row_form (Mem.src HM0.out 3 rfl hv)
 obtain ⟨pr, cr, rfl⟩ := row_form (Mem.src HM0.out 3 rfl hr)
 have HM1 := Mem.mapOut hj (Mem.only (M := [_, _, _, _]) HM0.out [1, 0, 0, 0] rfl)
 clear HM0
 have HM0 := Lib.hid HM1
 clear HM1
 go_enter Tryz.func83, Tryz.ntmps83
 refine wp_seq (wN [(0, 3)] ?_)
 refine wBh 0 HM0 fun b3 W2 HM4 => ?_
 refine wZ ?_
 refine wp_region_M (fun k => k ∈ ([] : List Nat)) [(0, 1), (1, 1), (2, 1), (3, 1), (4, 1), (5, 1), (6, 1), (7, 3)] (by kernel_rfl) (by kernel_rfl) HM4.out ?_
 intro W5 hm6
 have HM7 := Lib.hid hm6
 clear hm6
 refine wT [0, 1] ?_
 refine wM 2 (.int .i64 (j : Int)) (HM7.out.part1 0 rfl ddC_part) Tryz.underlying3 ?_
 refine wT [3, 4] ?_
 refine wR 5 (run_addrMp (j := j) (hj) rfl rfl rfl) ?_
 refine wM 6 (.map (some (s.bk (j)))) (HM7.out.part1 3 rfl (vtC_map (hj))) Tryz.underlying89 ?_
 refine wpS_clearM (K := strK) (val := valB) (i := 7) (L2 := [_, _, _, _, _]) rfl Tryz.underlying89 rfl (by rfl) rfl rfl HM7.out 1 rfl rfl covS_nil rfl ?_
 rintro W9 hm8 -
 have HM10 := Lib.hid hm8
 clear hm8
 refine wpS_nil ?_
 refine bodyPost_end (results_none rfl _ _ _) rfl ?_
 rw [countD_4 rfl]
 exact does_ret (Mem.toVt (S := ⟨S.inc, S.has, S.ring, S.dots, dropK (j : Int) S.b⟩) ⟨s.rp, s.rc, s.bk, setMs s.ms j ⟨[], (s.ms j).clock⟩, s.G⟩ (VsOk.drop (T := ⟨S.inc, S.has, S.ring, S.dots, dropK (j : Int) S.b⟩) hs.out hV.key hj rfl rfl) (Mem.only (M := [_, _, _]) (Mem.mapIn hj (Mem.only (M := [_, _, _, _]) HM10.out [0, 1, 1, 1] rfl)) [1, 0, 0] rfl)) rfl rfl
set_option maxHeartbeats 4000000 in
set_option maxRecDepth 100000 in
theorem vapply1_d (A : At) (dv dl : Nat) (S : Vt) (hV : VtOk S) (n : Int) (key : ByteArray) (b : Bg) (r : Rg) (part : Int) (vx rx : Value) (hA : DdR A (⟨1, n, key, b, r, part⟩ : Dd) vx rx) : Does Tryz.prog 38 #[.pointer (some ⟨dv, 0, none⟩), ddV (⟨1, n, key, b, r, part⟩ : Dd) vx rx] [vtT dv dl S, A] (.tuple #[]) [vtT dv dl (countD S (⟨1, n, key, b, r, part⟩ : Dd))] := by
 intro w H hp
 have HM0 := Lib.hid (mem_refl hp)
 clear hp
 have hv : Reads elemV A vx b.v := hA.v
 have hr : Reads elemI A rx r.p.2.2 := hA.r
 obtain ⟨pv, cv, rfl⟩ := row_form (Mem.src HM0.out 1 rfl hv)
 obtain ⟨pr, cr, rfl⟩ := row_form (Mem.src HM0.out 1 rfl hr)
 clear hv hr
 go_enter Tryz.func38, Tryz.ntmps38
 refine wp_seq (wN [(0, 3)] ?_)
 refine wBh 0 HM0 fun b3 W2 HM4 => ?_
 refine wZ (wp_seq (wN [(0, 1), (1, 0), (2, 1), (3, 0), (4, 1), (5, 0), (6, 1), (7, 0), (8, 1), (9, 3), (10, 3)] (wT [0] ?_)))
 refine wpS_func1 (i := 1) (d := some 6) (v := .pointer (some ⟨dv, 0, none⟩)) rfl (by rfl) rfl rfl rfl ?_
 simp only [Act.put, List.setIfInBounds_toArray, List.set_cons_succ, List.set_cons_zero]
 refine wT [2] ?_
 refine wpS_func1 (i := 3) (d := some 8) (v := .pointer (some ⟨dv, 0, none⟩)) rfl (by rfl) rfl rfl rfl ?_
 simp only [Act.put, List.setIfInBounds_toArray, List.set_cons_succ, List.set_cons_zero]
 refine wT [4] ?_
 refine wpS_func1 (i := 5) (d := some 10) (v := .pointer (some ⟨dv, 0, none⟩)) rfl (by rfl) rfl rfl rfl ?_
 simp only [Act.put, List.setIfInBounds_toArray, List.set_cons_succ, List.set_cons_zero]
 refine wT [6] ?_
 refine wpS_func1 (i := 7) (d := some 12) (v := .pointer (some ⟨dv, 0, none⟩)) rfl (by rfl) rfl rfl rfl ?_
 simp only [Act.put, List.setIfInBounds_toArray, List.set_cons_succ, List.set_cons_zero]
 refine wT [8] ?_
 refine wpS_alloc (i := 9) (dd := 4) (z := .agg #[.nilFunc, .nilFunc, .nilFunc, .nilFunc, .nilFunc]) (cs := #[.nilFunc, .nilFunc, .nilFunc, .nilFunc, .nilFunc]) rfl (by rfl) rfl (by kernel_rfl) rfl HM4.out covS_nil rfl ?_
 rintro b7 W6 hm5 -
 have HM8 := Lib.hid hm5
 clear hm5
 simp only [Act.put, List.setIfInBounds_toArray, List.set_cons_succ, List.set_cons_zero]
 refine wpS_storeA (i := 10) (L2 := [_, _, _]) (cs' := [_, _, _, _, _]) rfl (by rfl) rfl rfl rfl (by kernel_rfl) (by rfl) HM8.out 0 rfl rfl rfl rfl covS_nil rfl ?_
 rintro W10 hm9 -
 have HM11 := Lib.hid hm9
 clear hm9
 refine wZ ?_
 refine wp_region_M (fun k => k ∈ ([] : List Nat)) [(0, 1), (1, 1), (2, 1), (3, 1), (4, 1), (5, 3)] (by kernel_rfl) (by kernel_rfl) HM11.out ?_
 intro W12 hm13
 have HM14 := Lib.hid hm13
 clear hm13
 refine wT [0] ?_
 refine wM 1 (.int .i64 1) (HM14.out.part1 1 rfl rfl) Tryz.underlying3 ?_
 have Cb4 := Mem.cell HM14.out 0 rfl
 refine wT [2, 3] ?_
 clear Cb4
 refine wL 4 (ddC ((⟨1, n, key, b, r, part⟩ : Dd)) (.slice pv b.v.length cv) (.slice pr r.p.2.2.length cr)) (HM14.out.part 1 rfl (ddC_all)) Tryz.underlying96 ?_
 refine wpS_doesV1 (i := 5) (d := some 19) (rem := [_, _]) (out := [_, _, _]) rfl (by rfl) rfl rfl Tryz.call80 (vinc_d A dv dl S hV n key b r part _ _ hA) rfl rfl HM14.out [2, 2] rfl covS_nil rfl rfl ?_
 rintro W16 hm15 -
 have HM17 := Lib.hid hm15
 clear hm15
 simp only [Act.put, List.setIfInBounds_toArray, List.set_cons_succ, List.set_cons_zero]
 refine wpS_nil ?_
 refine bodyPost_end (results_none rfl _ _ _) rfl ?_
 exact does_ret (Mem.only (M := [_]) HM17.out [0] rfl) rfl rfl
set_option maxHeartbeats 4000000 in
set_option maxRecDepth 100000 in
theorem vapply2_d (A : At) (dv dl : Nat) (S : Vt) (hV : VtOk S) (n : Int) (key : ByteArray) (b : Bg) (r : Rg) (part : Int) (vx rx : Value) (hA : DdR A (⟨2, n, key, b, r, part⟩ : Dd) vx rx) : Does Tryz.prog 38 #[.pointer (some ⟨dv, 0, none⟩), ddV (⟨2, n, key, b, r, part⟩ : Dd) vx rx] [vtT dv dl S, A] (.tuple #[]) [vtT dv dl (countD S (⟨2, n, key, b, r, part⟩ : Dd))] := by
 intro w H hp
 have HM0 := Lib.hid (mem_refl hp)
 clear hp
 have hv : Reads elemV A vx b.v := hA.v
 have hr : Reads elemI A rx r.p.2.2 := hA.r
 obtain ⟨pv, cv, rfl⟩ := row_form (Mem.src HM0.out 1 rfl hv)
 obtain ⟨pr, cr, rfl⟩ := row_form (Mem.src HM0.out 1 rfl hr)
 clear hv hr
 go_enter Tryz.func38, Tryz.ntmps38
 refine wp_seq (wN [(0, 3)] ?_)
 refine wBh 0 HM0 fun b3 W2 HM4 => ?_
 refine wZ (wp_seq (wN [(0, 1), (1, 0), (2, 1), (3, 0), (4, 1), (5, 0), (6, 1), (7, 0), (8, 1), (9, 3), (10, 3)] (wT [0] ?_)))
 refine wpS_func1 (i := 1) (d := some 6) (v := .pointer (some ⟨dv, 0, none⟩)) rfl (by rfl) rfl rfl rfl ?_
 simp only [Act.put, List.setIfInBounds_toArray, List.set_cons_succ, List.set_cons_zero]
 refine wT [2] ?_
 refine wpS_func1 (i := 3) (d := some 8) (v := .pointer (some ⟨dv, 0, none⟩)) rfl (by rfl) rfl rfl rfl ?_
 simp only [Act.put, List.setIfInBounds_toArray, List.set_cons_succ, List.set_cons_zero]
 refine wT [4] ?_
 refine wpS_func1 (i := 5) (d := some 10) (v := .pointer (some ⟨dv, 0, none⟩)) rfl (by rfl) rfl rfl rfl ?_
 simp only [Act.put, List.setIfInBounds_toArray, List.set_cons_succ, List.set_cons_zero]
 refine wT [6] ?_
 refine wpS_func1 (i := 7) (d := some 12) (v := .pointer (some ⟨dv, 0, none⟩)) rfl (by rfl) rfl rfl rfl ?_
 simp only [Act.put, List.setIfInBounds_toArray, List.set_cons_succ, List.set_cons_zero]
 refine wT [8] ?_
 refine wpS_alloc (i := 9) (dd := 4) (z := .agg #[.nilFunc, .nilFunc, .nilFunc, .nilFunc, .nilFunc]) (cs := #[.nilFunc, .nilFunc, .nilFunc, .nilFunc, .nilFunc]) rfl (by rfl) rfl (by kernel_rfl) rfl HM4.out covS_nil rfl ?_
 rintro b7 W6 hm5 -
 have HM8 := Lib.hid hm5
 clear hm5
 simp only [Act.put, List.setIfInBounds_toArray, List.set_cons_succ, List.set_cons_zero]
 refine wpS_storeA (i := 10) (L2 := [_, _, _]) (cs' := [_, _, _, _, _]) rfl (by rfl) rfl rfl rfl (by kernel_rfl) (by rfl) HM8.out 0 rfl rfl rfl rfl covS_nil rfl ?_
 rintro W10 hm9 -
 have HM11 := Lib.hid hm9
 clear hm9
 refine wZ ?_
 refine wp_region_M (fun k => k ∈ ([] : List Nat)) [(0, 1), (1, 1), (2, 1), (3, 1), (4, 1), (5, 3)] (by kernel_rfl) (by kernel_rfl) HM11.out ?_
 intro W12 hm13
 have HM14 := Lib.hid hm13
 clear hm13
 refine wT [0] ?_
 refine wM 1 (.int .i64 2) (HM14.out.part1 1 rfl rfl) Tryz.underlying3 ?_
 have Cb4 := Mem.cell HM14.out 0 rfl
 refine wT [2, 3] ?_
 clear Cb4
 refine wL 4 (ddC ((⟨2, n, key, b, r, part⟩ : Dd)) (.slice pv b.v.length cv) (.slice pr r.p.2.2.length cr)) (HM14.out.part 1 rfl (ddC_all)) Tryz.underlying96 ?_
 refine wpS_doesV1 (i := 5) (d := some 19) (rem := [_, _]) (out := [_, _, _]) rfl (by rfl) rfl rfl Tryz.call81 (vring_d A dv dl S hV n key b r part _ _ hA) rfl rfl HM14.out [2, 2] rfl covS_nil rfl rfl ?_
 rintro W16 hm15 -
 have HM17 := Lib.hid hm15
 clear hm15
 simp only [Act.put, List.setIfInBounds_toArray, List.set_cons_succ, List.set_cons_zero]
 refine wpS_nil ?_
 refine bodyPost_end (results_none rfl _ _ _) rfl ?_
 exact does_ret (Mem.only (M := [_]) HM17.out [0] rfl) rfl rfl
set_option maxHeartbeats 4000000 in
set_option maxRecDepth 100000 in
theorem vapply3_d (A : At) (dv dl : Nat) (S : Vt) (hV : VtOk S) (n : Int) (key : ByteArray) (b : Bg) (r : Rg) (part : Int) (vx rx : Value) (hA : DdR A (⟨3, n, key, b, r, part⟩ : Dd) vx rx) (hk : keyB key = true) : Does Tryz.prog 38 #[.pointer (some ⟨dv, 0, none⟩), ddV (⟨3, n, key, b, r, part⟩ : Dd) vx rx] [vtT dv dl S, A] (.tuple #[]) [vtT dv dl (countD S (⟨3, n, key, b, r, part⟩ : Dd))] := by
 intro w H hp
 have HM0 := Lib.hid (mem_refl hp)
 clear hp
 have hv : Reads elemV A vx b.v := hA.v
 have hr : Reads elemI A rx r.p.2.2 := hA.r
 obtain ⟨pv, cv, rfl⟩ := row_form (Mem.src HM0.out 1 rfl hv)
 obtain ⟨pr, cr, rfl⟩ := row_form (Mem.src HM0.out 1 rfl hr)
 clear hv hr
 go_enter Tryz.func38, Tryz.ntmps38
 refine wp_seq (wN [(0, 3)] ?_)
 refine wBh 0 HM0 fun b3 W2 HM4 => ?_
 refine wZ (wp_seq (wN [(0, 1), (1, 0), (2, 1), (3, 0), (4, 1), (5, 0), (6, 1), (7, 0), (8, 1), (9, 3), (10, 3)] (wT [0] ?_)))
 refine wpS_func1 (i := 1) (d := some 6) (v := .pointer (some ⟨dv, 0, none⟩)) rfl (by rfl) rfl rfl rfl ?_
 simp only [Act.put, List.setIfInBounds_toArray, List.set_cons_succ, List.set_cons_zero]
 refine wT [2] ?_
 refine wpS_func1 (i := 3) (d := some 8) (v := .pointer (some ⟨dv, 0, none⟩)) rfl (by rfl) rfl rfl rfl ?_
 simp only [Act.put, List.setIfInBounds_toArray, List.set_cons_succ, List.set_cons_zero]
 refine wT [4] ?_
 refine wpS_func1 (i := 5) (d := some 10) (v := .pointer (some ⟨dv, 0, none⟩)) rfl (by rfl) rfl rfl rfl ?_
 simp only [Act.put, List.setIfInBounds_toArray, List.set_cons_succ, List.set_cons_zero]
 refine wT [6] ?_
 refine wpS_func1 (i := 7) (d := some 12) (v := .pointer (some ⟨dv, 0, none⟩)) rfl (by rfl) rfl rfl rfl ?_
 simp only [Act.put, List.setIfInBounds_toArray, List.set_cons_succ, List.set_cons_zero]
 refine wT [8] ?_
 refine wpS_alloc (i := 9) (dd := 4) (z := .agg #[.nilFunc, .nilFunc, .nilFunc, .nilFunc, .nilFunc]) (cs := #[.nilFunc, .nilFunc, .nilFunc, .nilFunc, .nilFunc]) rfl (by rfl) rfl (by kernel_rfl) rfl HM4.out covS_nil rfl ?_
 rintro b7 W6 hm5 -
 have HM8 := Lib.hid hm5
 clear hm5
 simp only [Act.put, List.setIfInBounds_toArray, List.set_cons_succ, List.set_cons_zero]
 refine wpS_storeA (i := 10) (L2 := [_, _, _]) (cs' := [_, _, _, _, _]) rfl (by rfl) rfl rfl rfl (by kernel_rfl) (by rfl) HM8.out 0 rfl rfl rfl rfl covS_nil rfl ?_
 rintro W10 hm9 -
 have HM11 := Lib.hid hm9
 clear hm9
 refine wZ ?_
 refine wp_region_M (fun k => k ∈ ([] : List Nat)) [(0, 1), (1, 1), (2, 1), (3, 1), (4, 1), (5, 3)] (by kernel_rfl) (by kernel_rfl) HM11.out ?_
 intro W12 hm13
 have HM14 := Lib.hid hm13
 clear hm13
 refine wT [0] ?_
 refine wM 1 (.int .i64 3) (HM14.out.part1 1 rfl rfl) Tryz.underlying3 ?_
 have Cb4 := Mem.cell HM14.out 0 rfl
 refine wT [2, 3] ?_
 clear Cb4
 refine wL 4 (ddC ((⟨3, n, key, b, r, part⟩ : Dd)) (.slice pv b.v.length cv) (.slice pr r.p.2.2.length cr)) (HM14.out.part 1 rfl (ddC_all)) Tryz.underlying96 ?_
 refine wpS_doesV1 (i := 5) (d := some 19) (rem := [_, _]) (out := [_, _, _]) rfl (by rfl) rfl rfl Tryz.call82 (vlay_d A dv dl S hV n key b r part _ _ hA hk) rfl rfl HM14.out [2, 2] rfl covS_nil rfl rfl ?_
 rintro W16 hm15 -
 have HM17 := Lib.hid hm15
 clear hm15
 simp only [Act.put, List.setIfInBounds_toArray, List.set_cons_succ, List.set_cons_zero]
 refine wpS_nil ?_
 refine bodyPost_end (results_none rfl _ _ _) rfl ?_
 exact does_ret (Mem.only (M := [_]) HM17.out [0] rfl) rfl rfl
set_option maxHeartbeats 4000000 in
set_option maxRecDepth 100000 in
theorem vapply4_d (A : At) (dv dl : Nat) (S : Vt) (hV : VtOk S) (n : Int) (key : ByteArray) (b : Bg) (r : Rg) (j : Nat) (hj : j < 16) (vx rx : Value) (hA : DdR A (⟨4, n, key, b, r, (j : Int)⟩ : Dd) vx rx) : Does Tryz.prog 38 #[.pointer (some ⟨dv, 0, none⟩), ddV (⟨4, n, key, b, r, (j : Int)⟩ : Dd) vx rx] [vtT dv dl S, A] (.tuple #[]) [vtT dv dl (countD S (⟨4, n, key, b, r, (j : Int)⟩ : Dd))] := by
 intro w H hp
 have HM0 := Lib.hid (mem_refl hp)
 clear hp
 have hv : Reads elemV A vx b.v := hA.v
 have hr : Reads elemI A rx r.p.2.2 := hA.r
 obtain ⟨pv, cv, rfl⟩ := row_form (Mem.src HM0.out 1 rfl hv)
 obtain ⟨pr, cr, rfl⟩ := row_form (Mem.src HM0.out 1 rfl hr)
 clear hv hr
 go_enter Tryz.func38, Tryz.ntmps38
 refine wp_seq (wN [(0, 3)] ?_)
 refine wBh 0 HM0 fun b3 W2 HM4 => ?_
 refine wZ (wp_seq (wN [(0, 1), (1, 0), (2, 1), (3, 0), (4, 1), (5, 0), (6, 1), (7, 0), (8, 1), (9, 3), (10, 3)] (wT [0] ?_)))
 refine wpS_func1 (i := 1) (d := some 6) (v := .pointer (some ⟨dv, 0, none⟩)) rfl (by rfl) rfl rfl rfl ?_
 simp only [Act.put, List.setIfInBounds_toArray, List.set_cons_succ, List.set_cons_zero]
 refine wT [2] ?_
 refine wpS_func1 (i := 3) (d := some 8) (v := .pointer (some ⟨dv, 0, none⟩)) rfl (by rfl) rfl rfl rfl ?_
 simp only [Act.put, List.setIfInBounds_toArray, List.set_cons_succ, List.set_cons_zero]
 refine wT [4] ?_
 refine wpS_func1 (i := 5) (d := some 10) (v := .pointer (some ⟨dv, 0, none⟩)) rfl (by rfl) rfl rfl rfl ?_
 simp only [Act.put, List.setIfInBounds_toArray, List.set_cons_succ, List.set_cons_zero]
 refine wT [6] ?_
 refine wpS_func1 (i := 7) (d := some 12) (v := .pointer (some ⟨dv, 0, none⟩)) rfl (by rfl) rfl rfl rfl ?_
 simp only [Act.put, List.setIfInBounds_toArray, List.set_cons_succ, List.set_cons_zero]
 refine wT [8] ?_
 refine wpS_alloc (i := 9) (dd := 4) (z := .agg #[.nilFunc, .nilFunc, .nilFunc, .nilFunc, .nilFunc]) (cs := #[.nilFunc, .nilFunc, .nilFunc, .nilFunc, .nilFunc]) rfl (by rfl) rfl (by kernel_rfl) rfl HM4.out covS_nil rfl ?_
 rintro b7 W6 hm5 -
 have HM8 := Lib.hid hm5
 clear hm5
 simp only [Act.put, List.setIfInBounds_toArray, List.set_cons_succ, List.set_cons_zero]
 refine wpS_storeA (i := 10) (L2 := [_, _, _]) (cs' := [_, _, _, _, _]) rfl (by rfl) rfl rfl rfl (by kernel_rfl) (by rfl) HM8.out 0 rfl rfl rfl rfl covS_nil rfl ?_
 rintro W10 hm9 -
 have HM11 := Lib.hid hm9
 clear hm9
 refine wZ ?_
 refine wp_region_M (fun k => k ∈ ([] : List Nat)) [(0, 1), (1, 1), (2, 1), (3, 1), (4, 1), (5, 3)] (by kernel_rfl) (by kernel_rfl) HM11.out ?_
 intro W12 hm13
 have HM14 := Lib.hid hm13
 clear hm13
 refine wT [0] ?_
 refine wM 1 (.int .i64 4) (HM14.out.part1 1 rfl rfl) Tryz.underlying3 ?_
 have Cb4 := Mem.cell HM14.out 0 rfl
 refine wT [2, 3] ?_
 clear Cb4
 refine wL 4 (ddC ((⟨4, n, key, b, r, (j : Int)⟩ : Dd)) (.slice pv b.v.length cv) (.slice pr r.p.2.2.length cr)) (HM14.out.part 1 rfl (ddC_all)) Tryz.underlying96 ?_
 refine wpS_doesV1 (i := 5) (d := some 19) (rem := [_, _]) (out := [_, _, _]) rfl (by rfl) rfl rfl Tryz.call83 (vdropD_d A dv dl S hV n key b r j hj _ _ hA) rfl rfl HM14.out [2, 2] rfl covS_nil rfl rfl ?_
 rintro W16 hm15 -
 have HM17 := Lib.hid hm15
 clear hm15
 simp only [Act.put, List.setIfInBounds_toArray, List.set_cons_succ, List.set_cons_zero]
 refine wpS_nil ?_
 refine bodyPost_end (results_none rfl _ _ _) rfl ?_
 exact does_ret (Mem.only (M := [_]) HM17.out [0] rfl) rfl rfl
theorem may_part {d : Dd} (hk : d.kind = 4) (h : mayD d = true) : 0 ≤ d.part ∧ d.part < 16 := by
 rw [may_4 hk, Bool.and_eq_true] at h
 exact of_decide_eq_true h.1
theorem vapply_d (A : At) (dv dl : Nat) (S : Vt) (hV : VtOk S) (d : Dd) (vx rx : Value) (hA : DdR A d vx rx) (hd : mayD d = true) : Does Tryz.prog 38 #[.pointer (some ⟨dv, 0, none⟩), ddV d vx rx] [vtT dv dl S, A] (.tuple #[]) [vtT dv dl (countD S d)] := by
 have hq := may_kind hd
 obtain ⟨dk, n, key, b, r, part⟩ := d
 rcases hq with hk | hk | hk | hk
 ·obtain rfl : dk = 1 := hk
  exact vapply1_d A dv dl S hV n key b r part vx rx hA
 ·obtain rfl : dk = 2 := hk
  exact vapply2_d A dv dl S hV n key b r part vx rx hA
 ·obtain rfl : dk = 3 := hk
  exact vapply3_d A dv dl S hV n key b r part vx rx hA (may_bag rfl hd).1
 ·obtain rfl : dk = 4 := hk
  have hp := may_part rfl hd
  have hp0 : 0 ≤ part := hp.1
  have hp1 : part < 16 := hp.2
  obtain ⟨j, rfl⟩ := Int.eq_ofNat_of_zero_le hp0
  exact vapply4_d A dv dl S hV n key b r j (by omega) vx rx hA
theorem lwrite_e {R : At} {d : Nat} {S Y : Lg} {x : Dd} {vx rx : Value} {e : Int} (hx : DdR R x vx rx) (hS : LgOk S) (h : writeL S x = (Y, e)) : Does Tryz.prog 108 #[.pointer (some ⟨d, 0, none⟩), ddV x vx rx] [lgT d S, R] (.int .i64 e) [lgT d Y, R] := by
 have h1 := lwrite_d R d S x vx rx hx hS
 rw [h] at h1
 exact h1
theorem writeV_0 {X : Vl2} {d : Dd} {L2 : Lg} (h : writeL X.2 d = (L2, 0)) : writeV X d = ((countD X.1 d, L2), 0) ∧ mayD d = true := by
 rcases writeL_ways X.2 d with ⟨h1, h2, _⟩ | ⟨h1, _⟩ | ⟨h1, _⟩
 ·refine ⟨?_, h2⟩
  unfold writeV
  rw [h, if_pos rfl]
 ·rw [h] at h1
  exact absurd (show (0 : Int) = 5 from h1) (by decide)
 ·rw [h] at h1
  exact absurd (show (0 : Int) = 1 from h1) (by decide)
theorem writeV_e {X : Vl2} {d : Dd} {L2 : Lg} {e : Int} (h : writeL X.2 d = (L2, e)) (he : e ≠ 0) : writeV X d = (X, e) ∧ L2 = X.2 := by
 refine ⟨?_, ?_⟩
 ·unfold writeV
  rw [h, if_neg he]
 ·rcases writeL_ways X.2 d with ⟨h1, _⟩ | ⟨_, _, _, h1⟩ | ⟨_, _, h1⟩
  ·rw [h] at h1
   exact absurd h1 he
  ·rw [h] at h1
   exact h1
  ·rw [h] at h1
   exact h1
set_option maxHeartbeats 4000000 in
set_option maxRecDepth 100000 in
theorem vwrite_d (A : At) (dv dl : Nat) (X : Vl2) (hX : Kept X) (d : Dd) (vx rx : Value) (hA : DdR A d vx rx) : Does Tryz.prog 65 #[.pointer (some ⟨dv, 0, none⟩), ddV d vx rx] [vtT dv dl X.1, lgT dl X.2, A] (.int .i64 (writeV X d).2) [vtT dv dl (writeV X d).1.1, lgT dl (writeV X d).1.2] := by
 intro w H hp
 have HM0 := Lib.hid (mem_refl hp)
 clear hp
 obtain ⟨pv, cv, rfl⟩ := row_form (Mem.src HM0.out 2 rfl hA.v)
 obtain ⟨pr, cr, rfl⟩ := row_form (Mem.src HM0.out 2 rfl hA.r)
 obtain ⟨L2, e, hw'⟩ : ∃ a b, writeL X.2 d = (a, b) := ⟨_, _, rfl⟩
 have hw := Lib.hid hw'
 clear hw'
 go_enter Tryz.func65, Tryz.ntmps65
 refine wp_seq (wN [(0, 3), (1, 1)] ?_)
 refine wBh 0 HM0 fun b3 W2 HM4 => ?_
 refine wT [1] ?_
 refine wZ (wp_seq ?_)
 obtain ⟨s, hs', HV'⟩ := Mem.vt (Mem.only (M := [_, _, _, _]) HM4.out [1, 0, 0, 0] rfl)
 have HV := Lib.hid HV'
 clear HV'
 have hs := Lib.hid hs'
 clear hs'
 refine wp_region_M (fun k => k ∈ ([] : List Nat)) [(0, 1), (1, 1), (2, 1), (3, 1), (4, 1), (5, 3), (6, 1)] (by kernel_rfl) (by kernel_rfl) HV.out ?_
 intro W5 hm6
 have HM7 := Lib.hid hm6
 clear hm6
 refine wT [0, 1, 2] ?_
 refine wM 3 (.pointer (some ⟨dl, 0, none⟩)) (HM7.out.part1 0 rfl vtC_ledger) Tryz.underlying27 ?_
 refine wL 4 (ddC (d) (.slice pv d.b.v.length cv) (.slice pr d.r.p.2.2.length cr)) (HM7.out.part 3 rfl (ddC_all)) Tryz.underlying96 ?_
 refine wpS_does2 (i := 5) (d := some 11) (rem := [_, _, _, _]) (out := [_, _, _, _, _, _]) rfl (by rfl) rfl Tryz.call108 (lwrite_e hA hX.lg hw.out) rfl rfl HM7.out [4, 4] rfl covS_nil rfl rfl ?_
 rintro W9 hm8 -
 have HM10 := Lib.hid hm8
 clear hm8
 simp only [Act.put, List.setIfInBounds_toArray, List.set_cons_succ, List.set_cons_zero]
 refine wT [6] ?_
 refine wZ (wp_seq (wp_seq ?_))
 by_cases he : e = 0
 ·subst he
  have hwv := Lib.hid (writeV_0 hw.out).1
  have hmd := Lib.hid (writeV_0 hw.out).2
  have HC := Lib.hid (Mem.toVt s hs.out (Mem.only (M := [_, _, _, _, _, _]) HM10.out [2, 2, 2, 0, 0, 0] rfl))
  refine wQ ?_
  refine wp_cond_true rfl (wN [(0, 1), (1, 1), (2, 3)] (wT [0] ?_))
  refine wL 1 (ddC (d) (.slice pv d.b.v.length cv) (.slice pr d.r.p.2.2.length cr)) (HC.out.part 3 rfl (ddC_all)) Tryz.underlying96 ?_
  refine wpS_does2 (i := 2) (d := some 16) (rem := [_, _]) (out := [_, _, _]) rfl (by rfl) rfl Tryz.call38 (vapply_d A dv dl X.1 hX.ok d _ _ hA hmd.out) rfl rfl HC.out [0, 1] rfl covS_nil rfl rfl ?_
  rintro W12 hm11 -
  have HM13 := Lib.hid hm11
  clear hm11
  simp only [Act.put, List.setIfInBounds_toArray, List.set_cons_succ, List.set_cons_zero]
  refine wZ (wp_seq (wQ ?_))
  refine wp_ret (bodyPost_ret (results_tmp rfl _ _ _) rfl ?_)
  rw [hwv.out]
  exact does_ret (Mem.only (M := [_, _]) HM13.out [0, 0] rfl) rfl rfl
 ·have hwv := Lib.hid (writeV_e hw.out he).1
  obtain rfl := (writeV_e hw.out he).2
  have g1 : (e == 0) = false := beq_eq_false_iff_ne.2 he
  replace he := Lib.hid he
  have HC := Lib.hid (Mem.toVt s hs.out (Mem.only (M := [_, _, _, _, _, _]) HM10.out [2, 2, 2, 0, 0, 0] rfl))
  refine wQ ?_
  refine wp_cond_false rfl (wp_skip (then_normal (wp_seq (wQ ?_))))
  refine wp_ret (bodyPost_ret (results_tmp rfl _ _ _) rfl ?_)
  rw [hwv.out]
  exact does_ret (Mem.only (M := [_, _]) HC.out [0, 0] rfl) rfl rfl
end Go.Proofs.YtcchkkdbagpgjaaGreat
