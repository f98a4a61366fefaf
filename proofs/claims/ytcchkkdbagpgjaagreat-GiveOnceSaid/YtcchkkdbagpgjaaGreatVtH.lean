/- The landed vault: what it tells. -/
import Derived.Test.YtcchkkdbagpgjaaGreatVtB
import Derived.Test.YtcchkkdbagpgjaaGreatPA
namespace Go.Proofs.YtcchkkdbagpgjaaGreat
open Go Go.RowKit Go.BigFrame
theorem spof_d (k : ByteArray) (hk : keyB k = true) : Does Tryz.prog 36 #[.string k] [] (.int .i64 (pK k : Int)) [] := by
 rw [pK_of hk]
 exact Does.of_any fun w => of_any k w (Nat.le_trans (keyB_size hk) (by decide))
theorem spmay_d (k : ByteArray) : Does Tryz.prog 61 #[.string k] [] (.bool (keyB k)) [] := Does.of_any fun w => may_any k w
theorem keysV_le (S : Vt) (n : Int) : (keysV S n).length ≤ S.b.length := by
 rw [keysV_len]
 exact List.countP_le_length
theorem sumK_le (S : Vt) (i : Nat) : sumK S i ≤ S.b.length := by
 rw [sumK_count]
 exact List.countP_le_length
set_option maxHeartbeats 4000000 in
set_option maxRecDepth 100000 in
theorem vnode_d (n : Int) : Does Tryz.prog 60 #[.int .i64 n] [] (.bool (decide (0 ≤ n ∧ n < 8))) [] := by
 intro w H hp
 have HM0 := Lib.hid (mem_refl hp)
 clear hp
 go_enter Tryz.func60, Tryz.ntmps60
 refine wp_seq (wQ ?_)
 refine wp_seq ?_
 by_cases h1 : 0 ≤ n <;> by_cases h2 : n < 8
 ·have hc : Hid (decide (0 ≤ n ∧ n < 8) = true) := Lib.hid (decide_eq_true (by omega))
  have g1 : decide ((0 : Int) ≤ n) = true := decide_eq_true h1
  have g2 : decide (n < 8) = true := decide_eq_true h2
  replace h1 := Lib.hid h1
  replace h2 := Lib.hid h2
  refine wQ ?_
  refine wp_ret (bodyPost_ret (results_tmp rfl _ _ _) rfl ?_)
  rw [hc.out]
  exact does_ret (Mem.only (M := []) HM0.out [] rfl) rfl rfl
 ·have hc : Hid (decide (0 ≤ n ∧ n < 8) = false) := Lib.hid (decide_eq_false (by omega))
  have g1 : decide ((0 : Int) ≤ n) = true := decide_eq_true h1
  have g2 : decide (n < 8) = false := decide_eq_false h2
  replace h1 := Lib.hid h1
  replace h2 := Lib.hid h2
  refine wQ ?_
  refine wp_ret (bodyPost_ret (results_tmp rfl _ _ _) rfl ?_)
  rw [hc.out]
  exact does_ret (Mem.only (M := []) HM0.out [] rfl) rfl rfl
 ·have hc : Hid (decide (0 ≤ n ∧ n < 8) = false) := Lib.hid (decide_eq_false (by omega))
  have g1 : decide ((0 : Int) ≤ n) = false := decide_eq_false h1
  have g2 : decide (n < 8) = true := decide_eq_true h2
  replace h1 := Lib.hid h1
  replace h2 := Lib.hid h2
  refine wQ ?_
  refine wp_ret (bodyPost_ret (results_tmp rfl _ _ _) rfl ?_)
  rw [hc.out]
  exact does_ret (Mem.only (M := []) HM0.out [] rfl) rfl rfl
 ·have hc : Hid (decide (0 ≤ n ∧ n < 8) = false) := Lib.hid (decide_eq_false (by omega))
  have g1 : decide ((0 : Int) ≤ n) = false := decide_eq_false h1
  have g2 : decide (n < 8) = false := decide_eq_false h2
  replace h1 := Lib.hid h1
  replace h2 := Lib.hid h2
  refine wQ ?_
  refine wp_ret (bodyPost_ret (results_tmp rfl _ _ _) rfl ?_)
  rw [hc.out]
  exact does_ret (Mem.only (M := []) HM0.out [] rfl) rfl rfl
set_option maxHeartbeats 4000000 in
set_option maxRecDepth 100000 in
theorem vpart_d (n : Int) : Does Tryz.prog 74 #[.int .i64 n] [] (.bool (decide (0 ≤ n ∧ n < 16))) [] := by
 intro w H hp
 have HM0 := Lib.hid (mem_refl hp)
 clear hp
 go_enter Tryz.func74, Tryz.ntmps74
 refine wp_seq (wQ ?_)
 refine wp_seq ?_
 by_cases h1 : 0 ≤ n <;> by_cases h2 : n < 16
 ·have hc : Hid (decide (0 ≤ n ∧ n < 16) = true) := Lib.hid (decide_eq_true (by omega))
  have g1 : decide ((0 : Int) ≤ n) = true := decide_eq_true h1
  have g2 : decide (n < 16) = true := decide_eq_true h2
  replace h1 := Lib.hid h1
  replace h2 := Lib.hid h2
  refine wQ ?_
  refine wp_ret (bodyPost_ret (results_tmp rfl _ _ _) rfl ?_)
  rw [hc.out]
  exact does_ret (Mem.only (M := []) HM0.out [] rfl) rfl rfl
 ·have hc : Hid (decide (0 ≤ n ∧ n < 16) = false) := Lib.hid (decide_eq_false (by omega))
  have g1 : decide ((0 : Int) ≤ n) = true := decide_eq_true h1
  have g2 : decide (n < 16) = false := decide_eq_false h2
  replace h1 := Lib.hid h1
  replace h2 := Lib.hid h2
  refine wQ ?_
  refine wp_ret (bodyPost_ret (results_tmp rfl _ _ _) rfl ?_)
  rw [hc.out]
  exact does_ret (Mem.only (M := []) HM0.out [] rfl) rfl rfl
 ·have hc : Hid (decide (0 ≤ n ∧ n < 16) = false) := Lib.hid (decide_eq_false (by omega))
  have g1 : decide ((0 : Int) ≤ n) = false := decide_eq_false h1
  have g2 : decide (n < 16) = true := decide_eq_true h2
  replace h1 := Lib.hid h1
  replace h2 := Lib.hid h2
  refine wQ ?_
  refine wp_ret (bodyPost_ret (results_tmp rfl _ _ _) rfl ?_)
  rw [hc.out]
  exact does_ret (Mem.only (M := []) HM0.out [] rfl) rfl rfl
 ·have hc : Hid (decide (0 ≤ n ∧ n < 16) = false) := Lib.hid (decide_eq_false (by omega))
  have g1 : decide ((0 : Int) ≤ n) = false := decide_eq_false h1
  have g2 : decide (n < 16) = false := decide_eq_false h2
  replace h1 := Lib.hid h1
  replace h2 := Lib.hid h2
  refine wQ ?_
  refine wp_ret (bodyPost_ret (results_tmp rfl _ _ _) rfl ?_)
  rw [hc.out]
  exact does_ret (Mem.only (M := []) HM0.out [] rfl) rfl rfl
set_option maxHeartbeats 4000000 in
set_option maxRecDepth 100000 in
theorem vof_d (dv dl : Nat) (S : Vt) (s : Vs) (k : ByteArray) (hk : keyB k = true) : Does Tryz.prog 64 #[.pointer (some ⟨dv, 0, none⟩), .string k] [boxT dv (.cells (vtC dl S.inc S.ring (.slice s.rp S.ring.p.2.2.length s.rc) S.has S.dots (fun i => some (s.bk i))).toArray 92 (0, 0)), mapsT s.bk s.ms] (valB (ofV s k)) [boxT dv (.cells (vtC dl S.inc S.ring (.slice s.rp S.ring.p.2.2.length s.rc) S.has S.dots (fun i => some (s.bk i))).toArray 92 (0, 0)), mapsT s.bk s.ms] := by
 intro w H hp
 have HM0 := Lib.hid (mem_refl hp)
 clear hp
 go_enter Tryz.func64, Tryz.ntmps64
 refine wp_seq (wN [(0, 3)] ?_)
 refine wpS_alloc (i := 0) (dd := 4) (z := bgV noB.k (.slice none 0 0)) (cs := (bgC noB.k (.slice none 0 0)).toArray) rfl (by rfl) rfl (by kernel_rfl) rfl HM0.out covS_nil rfl ?_
 rintro b3 W2 hm1 -
 have HM4 := Lib.hid hm1
 clear hm1
 simp only [Act.put, List.setIfInBounds_toArray, List.set_cons_succ, List.set_cons_zero]
 refine wZ (wp_seq ?_)
 refine wp_region_M (fun k => k ∈ ([] : List Nat)) [(0, 0), (1, 1), (3, 0), (4, 0), (7, 0), (2, 3), (5, 1), (6, 1), (8, 3), (9, 3)] (by kernel_rfl) (by kernel_rfl) HM4.out ?_
 intro W5 hm6
 have HM7 := Lib.hid hm6
 clear hm6
 refine wA [0] ?_
 refine wT [1] ?_
 refine wA [3, 4, 7] ?_
 refine wpS_does1 (i := 2) (d := some 7) (rem := [_, _, _]) (out := [_, _, _]) rfl (by rfl) rfl Tryz.call36 (spof_d k hk) rfl HM7.out [] rfl covS_nil rfl rfl ?_
 rintro W9 hm8 -
 have HM10 := Lib.hid hm8
 clear hm8
 simp only [Act.put, List.setIfInBounds_toArray, List.set_cons_succ, List.set_cons_zero]
 refine wR 5 (run_addrMp (j := pK k) (pK_lt hk) rfl rfl rfl) ?_
 refine wM 6 (.map (some (s.bk (pK k)))) (HM10.out.part1 1 rfl (vtC_map (pK_lt hk))) Tryz.underlying89 ?_
 refine wpS_still (i := 8) (d := some 13) rfl (by rfl) (run_getD (K := strK) (val := valB) (z := noHv) Tryz.underlying89 (by kernel_rfl) (HM10.out.mapAt 2 rfl (pK_lt hk)) rfl rfl rfl) rfl ?_
 simp only [Act.put, List.setIfInBounds_toArray, List.set_cons_succ, List.set_cons_zero]
 refine wpS_storeA (i := 9) (L2 := [_, _]) (cs' := bgC ((ofV s k).b.k) (.slice (ofV s k).p (ofV s k).n (ofV s k).c)) rfl (by rfl) rfl rfl rfl (by kernel_rfl) (bgC_one _ _ _) HM10.out 0 rfl rfl (by kernel_rfl) (by kernel_rfl) covS_nil rfl ?_
 rintro W12 hm11 -
 have HM13 := Lib.hid hm11
 clear hm11
 refine wZ (wp_ret ?_)
 refine ret_cell rfl HM13.out 0 rfl rfl Tryz.underlying41 rfl (by kernel_rfl) rfl ?_
 exact does_ret (Mem.only (M := [_, _]) HM13.out [1, 1] rfl) rfl rfl
set_option maxHeartbeats 4000000 in
set_option maxRecDepth 100000 in
theorem vroom_d (dv dl : Nat) (S : Vt) (hV : VtOk S) (s : Vs) (hs' : VsOk s S) (hl : S.b.length ≤ 3000) (ky : ByteArray) (hk : keyB ky = true) : Does Tryz.prog 62 #[.pointer (some ⟨dv, 0, none⟩), .string ky] [boxT dv (.cells (vtC dl S.inc S.ring (.slice s.rp S.ring.p.2.2.length s.rc) S.has S.dots (fun i => some (s.bk i))).toArray 92 (0, 0)), mapsT s.bk s.ms] (.bool (!fullV S ky)) [boxT dv (.cells (vtC dl S.inc S.ring (.slice s.rp S.ring.p.2.2.length s.rc) S.has S.dots (fun i => some (s.bk i))).toArray 92 (0, 0)), mapsT s.bk s.ms] := by
 intro w H hp
 have HM0 := Lib.hid (mem_refl hp)
 clear hp
 have HM1 := Mem.mapOut (pK_lt hk) (Mem.only (M := [_, _]) HM0.out [1, 0] rfl)
 clear HM0
 have HM0 := Lib.hid HM1
 clear HM1
 go_enter Tryz.func62, Tryz.ntmps62
 refine wp_seq (wQ ?_)
 refine wp_seq (wp_seq ?_)
 have hsm' := (hs'.ofV hk).2.2.2
 cases hh' : hasK S ky
 ·rw [hh'] at hsm'
  have hh := Lib.hid hh'
  clear hh'
  have hsm := Lib.hid hsm'
  clear hsm'
  have hs := Lib.hid hs'
  clear hs'
  refine wp_cut_F [5, 6, 10, 11, 12, 13, 14, 15, 16, 17, 18, 19, 20, 21] (fun vs W' => vs 6 = .bool false ∧ Mem [mapT strK valB (s.bk (pK ky)) (s.ms (pK ky)), restT (pK ky) s.bk s.ms, boxT dv (.cells (vtC dl S.inc S.ring (.slice s.rp S.ring.p.2.2.length s.rc) S.has S.dots (fun i => some (s.bk i))).toArray 92 (0, 0))] H w W') ?_ ?_
  ·refine wp_region_taken [] (fun k => k ∈ ([dv, (s.bk (pK ky))] : List Nat)) (by kernel_rfl) rfl rfl ?_
   have hm1 := HM0.out.drew
   have HM2 := Lib.hid hm1
   clear hm1
   refine wpT_takeS (i := 0) (by kernel_rfl) (by kernel_rfl) ?_
   refine wS [0] ?_
   refine wpS_nil ?_
   refine wpT_takeS (i := 1) (by kernel_rfl) (by kernel_rfl) ?_
   refine wS [1] ?_
   refine wpS_nil ?_
   refine wpT_takeS (i := 3) (by kernel_rfl) (by kernel_rfl) ?_
   refine wS [3] ?_
   refine wpS_nil ?_
   refine wpT_takeS (i := 4) (by kernel_rfl) (by kernel_rfl) ?_
   refine wS [4] ?_
   refine wpS_nil ?_
   refine wpT_takeS (i := 7) (by kernel_rfl) (by kernel_rfl) ?_
   refine wS [7] ?_
   refine wpS_nil ?_
   refine wpT_ready 2 [12] (by kernel_rfl) (allT_cons ?_ (allT_cons ?_ allT_nil))
   ·refine opT_S (by kernel_rfl) ?_
    refine wpS_does1 (i := 2) (d := some 13) (rem := [_, _, _]) (out := [_, _, _]) rfl (by rfl) rfl Tryz.call36 (spof_d ky hk) rfl HM2.out [] rfl (covS_box 2 rfl (covS_box 0 rfl covS_nil)) rfl rfl ?_
    rintro W4 hm3 hg5
    have HM6 := Lib.hid hm3
    clear hm3
    simp only [Act.put, List.setIfInBounds_toArray, List.set_cons_succ, List.set_cons_zero]
    refine wpS_nil ?_
    refine wpT_takeS (i := 5) (by kernel_rfl) (by kernel_rfl) ?_
    refine wpS_read2 (i := 5) (d := some 16) rfl (by rfl) (fun _ hgk => run_addrMp (pK_lt hk) rfl rfl rfl) rfl ?_
    simp only [Act.put, List.setIfInBounds_toArray, List.set_cons_succ, List.set_cons_zero]
    refine wpS_nil ?_
    refine wpT_takeS (i := 6) (by kernel_rfl) (by kernel_rfl) ?_
    refine wM2 6 (.map (some (s.bk (pK ky)))) (HM6.out.part1 2 rfl (vtC_map (pK_lt hk))) Tryz.underlying89 ?_
    refine wpS_nil ?_
    refine wpT_takeS (i := 8) (by kernel_rfl) (by kernel_rfl) ?_
    refine wpS_read2 (i := 8) (d := some 19) rfl (by rfl) (fun _ hgk => run_getT (K := strK) (val := valB) (z := noHv) hsm.out Tryz.underlying89 (by kernel_rfl) ((hgk.block (by simp)).trans (HM6.out.box 0 rfl)) rfl rfl rfl) rfl ?_
    simp only [Act.put, List.setIfInBounds_toArray, List.set_cons_succ, List.set_cons_zero]
    refine wpS_nil ?_
    refine wpT_takeS (i := 9) (by kernel_rfl) (by kernel_rfl) ?_
    refine wS [9] ?_
    refine wpS_nil ?_
    refine wpT_takeS (i := 10) (by kernel_rfl) (by kernel_rfl) ?_
    refine wS [10] ?_
    refine wpS_nil ?_
    refine wpT_takeS (i := 11) (by kernel_rfl) (by kernel_rfl) ?_
    refine wS [11] ?_
    refine wpS_nil ?_
    refine wpT_ready 12 [] (by kernel_rfl) (allT_cons ?_ allT_nil)
    refine opT_S (by kernel_rfl) ?_
    refine wpS_alloc (i := 12) (dd := 5) (z := bgV noB.k (.slice none 0 0)) (cs := (bgC noB.k (.slice none 0 0)).toArray) rfl (by rfl) rfl (by kernel_rfl) rfl HM6.out (covS_box 2 rfl (covS_box 0 rfl covS_nil)) rfl ?_
    rintro b10 W9 hm8 hg7
    have HM11 := Lib.hid hm8
    clear hm8
    simp only [Act.put, List.setIfInBounds_toArray, List.set_cons_succ, List.set_cons_zero]
    refine wpS_nil ?_
    refine wpT_ready 13 [] (by kernel_rfl) (allT_cons ?_ allT_nil)
    refine opT_S (by kernel_rfl) ?_
    refine wpS_storeA (i := 13) (L2 := [_, _, _]) (cs' := bgC ((ofV s ky).b.k) (.slice (ofV s ky).p (ofV s ky).n (ofV s ky).c)) rfl (by rfl) rfl rfl rfl (by kernel_rfl) (bgC_one _ _ _) HM11.out 0 rfl rfl (by kernel_rfl) (by kernel_rfl) (covS_box 2 rfl (covS_box 0 rfl covS_nil)) rfl ?_
    rintro W14 hm13 hg12
    have HM15 := Lib.hid hm13
    clear hm13
    refine wpS_nil ?_
    refine wpT_takeS (i := 14) (by kernel_rfl) (by kernel_rfl) ?_
    refine wS [14] ?_
    refine wpS_nil ?_
    refine wpT_end (by kernel_rfl) ?_
    refine then_normal ?_
    refine ⟨by kernel_rfl, ?_⟩
    exact ⟨rfl, (Mem.only (M := [_, _, _]) HM15.out [1, 1, 1] rfl)⟩
   ·refine opT_S (by kernel_rfl) ?_
    refine wpS_alloc (i := 12) (dd := 5) (z := bgV noB.k (.slice none 0 0)) (cs := (bgC noB.k (.slice none 0 0)).toArray) rfl (by rfl) rfl (by kernel_rfl) rfl HM2.out (covS_box 2 rfl (covS_box 0 rfl covS_nil)) rfl ?_
    rintro b19 W18 hm17 hg16
    have HM20 := Lib.hid hm17
    clear hm17
    simp only [Act.put, List.setIfInBounds_toArray, List.set_cons_succ, List.set_cons_zero]
    refine wpS_nil ?_
    refine wpT_ready 2 [] (by kernel_rfl) (allT_cons ?_ allT_nil)
    refine opT_S (by kernel_rfl) ?_
    refine wpS_does1 (i := 2) (d := some 13) (rem := [_, _, _, _]) (out := [_, _, _, _]) rfl (by rfl) rfl Tryz.call36 (spof_d ky hk) rfl HM20.out [] rfl (covS_box 3 rfl (covS_box 1 rfl covS_nil)) rfl rfl ?_
    rintro W22 hm21 hg23
    have HM24 := Lib.hid hm21
    clear hm21
    simp only [Act.put, List.setIfInBounds_toArray, List.set_cons_succ, List.set_cons_zero]
    refine wpS_nil ?_
    refine wpT_takeS (i := 5) (by kernel_rfl) (by kernel_rfl) ?_
    refine wpS_read2 (i := 5) (d := some 16) rfl (by rfl) (fun _ hgk => run_addrMp (pK_lt hk) rfl rfl rfl) rfl ?_
    simp only [Act.put, List.setIfInBounds_toArray, List.set_cons_succ, List.set_cons_zero]
    refine wpS_nil ?_
    refine wpT_takeS (i := 6) (by kernel_rfl) (by kernel_rfl) ?_
    refine wM2 6 (.map (some (s.bk (pK ky)))) (HM24.out.part1 3 rfl (vtC_map (pK_lt hk))) Tryz.underlying89 ?_
    refine wpS_nil ?_
    refine wpT_takeS (i := 8) (by kernel_rfl) (by kernel_rfl) ?_
    refine wpS_read2 (i := 8) (d := some 19) rfl (by rfl) (fun _ hgk => run_getT (K := strK) (val := valB) (z := noHv) hsm.out Tryz.underlying89 (by kernel_rfl) ((hgk.block (by simp)).trans (HM24.out.box 1 rfl)) rfl rfl rfl) rfl ?_
    simp only [Act.put, List.setIfInBounds_toArray, List.set_cons_succ, List.set_cons_zero]
    refine wpS_nil ?_
    refine wpT_takeS (i := 9) (by kernel_rfl) (by kernel_rfl) ?_
    refine wS [9] ?_
    refine wpS_nil ?_
    refine wpT_takeS (i := 10) (by kernel_rfl) (by kernel_rfl) ?_
    refine wS [10] ?_
    refine wpS_nil ?_
    refine wpT_takeS (i := 11) (by kernel_rfl) (by kernel_rfl) ?_
    refine wS [11] ?_
    refine wpS_nil ?_
    refine wpT_ready 13 [] (by kernel_rfl) (allT_cons ?_ allT_nil)
    refine opT_S (by kernel_rfl) ?_
    refine wpS_storeA (i := 13) (L2 := [_, _, _]) (cs' := bgC ((ofV s ky).b.k) (.slice (ofV s ky).p (ofV s ky).n (ofV s ky).c)) rfl (by rfl) rfl rfl rfl (by kernel_rfl) (bgC_one _ _ _) HM24.out 0 rfl rfl (by kernel_rfl) (by kernel_rfl) (covS_box 2 rfl (covS_box 0 rfl covS_nil)) rfl ?_
    rintro W27 hm26 hg25
    have HM28 := Lib.hid hm26
    clear hm26
    refine wpS_nil ?_
    refine wpT_takeS (i := 14) (by kernel_rfl) (by kernel_rfl) ?_
    refine wS [14] ?_
    refine wpS_nil ?_
    refine wpT_end (by kernel_rfl) ?_
    refine then_normal ?_
    refine ⟨by kernel_rfl, ?_⟩
    exact ⟨rfl, (Mem.only (M := [_, _, _]) HM28.out [1, 1, 1] rfl)⟩
  rintro vs W' ⟨e6, hm⟩
  simp only [putAll, List.map_cons, List.map_nil, Act.put, List.setIfInBounds_toArray, List.set_cons_succ, List.set_cons_zero]
  rw [e6]
  clear e6
  have HM29 := Lib.hid hm
  clear hm
  refine then_normal (wp_seq (wQ ?_))
  refine wp_cond_false rfl (wp_skip (then_normal (wp_seq ?_)))
  have HB := Lib.hid (Mem.only (M := [_, _]) (Mem.mapBack (pK_lt hk) (Mem.only (M := [_, _, _]) HM29.out [0, 0, 0] rfl)) [1, 0] rfl)
  refine wQ ?_
  refine wp_seq (wp_seq (wN [(0, 1), (1, 1), (2, 1), (3, 1), (4, 1)] (wT [0, 1, 2] ?_)))
  refine wL 3 (mpC (fun i => some (s.bk i))) (HB.out.part 0 rfl (vtC_bags)) Tryz.underlying90 ?_
  refine wT [4] ?_
  refine wZ (wp_block ?_)
  refine wp_loop_F [7, 9, 27, 28, 29, 30, 31, 32, 33, 34] (fun n vs W' => ∃ i : Nat, n = 16 - i ∧ vs 27 = .int .i64 (i : Int) ∧ vs 7 = .int .i64 ((sumK S i : Nat) : Int) ∧ i ≤ 16 ∧ Mem [boxT dv (.cells (vtC dl S.inc S.ring (.slice s.rp S.ring.p.2.2.length s.rc) S.has S.dots (fun i => some (s.bk i))).toArray 92 (0, 0)), mapsT s.bk s.ms] H w W') (n0 := 16) ?_ ?_
  ·exact ⟨0, rfl, rfl, rfl, Nat.zero_le _, (Mem.only (M := [_, _]) HB.out [0, 0] rfl)⟩
  rintro n vs W' ⟨i, rfl, e27, e7, hi, hm⟩
  simp only [putAll, List.map_cons, List.map_nil, Act.put, List.setIfInBounds_toArray, List.set_cons_succ, List.set_cons_zero]
  rw [e27, e7]
  clear e27 e7
  obtain ⟨sp, hsp'⟩ : ∃ z, sumK S i = z := ⟨_, rfl⟩
  have hsp3 : sp ≤ 3000 := by rw [← hsp']; exact Nat.le_trans (sumK_le S i) hl
  rw [hsp']
  have hsp := Lib.hid hsp'
  clear hsp'
  have HM30 := Lib.hid hm
  clear hm
  refine wp_seq (wQ ?_)
  refine wp_seq ?_
  refine wp_cond_split rfl (fun h31 => ?_) (fun h31 => ?_)
  ·have hi1 : i + 1 ≤ 16 := by have : (i : Int) < ((16 : Nat) : Int) := (by simpa using h31); omega
   clear h31
   have hlen3 : (s.ms i).es.length ≤ 3000 := by rw [hs.out.len hV (by omega)]; exact Nat.le_trans (keysV_le S _) hl
   refine wp_skip (then_normal (wp_seq (wp_block (wp_seq (wN [(0, 1), (1, 1)] ?_)))))
   refine wR 0 (run_indexMp (j := i) (mb := (fun i => some (s.bk i))) (by omega) rfl rfl rfl) ?_
   refine wT [1] ?_
   refine wZ (wN [(0, 1), (1, 1), (2, 1), (3, 1), (4, 1)] (wT [0, 1] ?_))
   refine wR 2 (run_lenM (K := strK) (val := valB) Tryz.underlying89 (HM30.out.mapAt 1 rfl (show i < 16 by omega)) rfl rfl) ?_
   refine wT [3, 4] ?_
   refine wpS_nil (block_normal (then_normal (wQ ?_)))
   refine ⟨by kernel_rfl, ?_⟩
   exact ⟨16 - (i + 1), by omega, i + 1, rfl, rfl, (by show Value.int .i64 ((sp : Int) + ((s.ms i).es.length : Int)) = Value.int .i64 ((sumK S (i + 1) : Nat) : Int); rw [show sumK S (i + 1) = sp + (s.ms i).es.length from by show sumK S i + (keysV S (i : Int)).length = _; rw [hsp.out, hs.out.len hV (by omega)]]; rfl), hi1, (Mem.only (M := [_, _]) HM30.out [0, 0] rfl)⟩
  ·have hge : Hid (16 ≤ i) := Lib.hid (by have : ¬ (i : Int) < 16 := (by simpa using h31); omega)
   clear h31
   refine wp_exit ?_
   refine then_exit (then_exit (block_exit ?_))
   refine then_normal (wp_seq (wQ ?_))
   refine wp_ret (bodyPost_ret (results_tmp rfl _ _ _) rfl ?_)
   rw [show fullV S ky = decide (200 ≤ S.b.length) from by unfold fullV; rw [hh.out]; rfl]
   have hsum : sp = S.b.length := by have h16 : i = 16 := (by have := hge.out; omega); rw [← hsp.out, h16]; exact sumK_all hV
   exact does_ret (Mem.only (M := [_, _]) HM30.out [0, 0] rfl) (congrArg Value.bool (by rw [hsum, ← decide_not]; exact decide_eq_decide.2 (by omega))) rfl
 ·rw [hh'] at hsm'
  have hh := Lib.hid hh'
  clear hh'
  have hsm := Lib.hid hsm'
  clear hsm'
  have hs := Lib.hid hs'
  clear hs'
  refine wp_cut_F [5, 6, 10, 11, 12, 13, 14, 15, 16, 17, 18, 19, 20, 21] (fun vs W' => vs 6 = .bool true ∧ Mem [mapT strK valB (s.bk (pK ky)) (s.ms (pK ky)), restT (pK ky) s.bk s.ms, boxT dv (.cells (vtC dl S.inc S.ring (.slice s.rp S.ring.p.2.2.length s.rc) S.has S.dots (fun i => some (s.bk i))).toArray 92 (0, 0))] H w W') ?_ ?_
  ·refine wp_region_taken [] (fun k => k ∈ ([dv, (s.bk (pK ky))] : List Nat)) (by kernel_rfl) rfl rfl ?_
   have hm32 := HM0.out.drew
   have HM33 := Lib.hid hm32
   clear hm32
   refine wpT_takeS (i := 0) (by kernel_rfl) (by kernel_rfl) ?_
   refine wS [0] ?_
   refine wpS_nil ?_
   refine wpT_takeS (i := 1) (by kernel_rfl) (by kernel_rfl) ?_
   refine wS [1] ?_
   refine wpS_nil ?_
   refine wpT_takeS (i := 3) (by kernel_rfl) (by kernel_rfl) ?_
   refine wS [3] ?_
   refine wpS_nil ?_
   refine wpT_takeS (i := 4) (by kernel_rfl) (by kernel_rfl) ?_
   refine wS [4] ?_
   refine wpS_nil ?_
   refine wpT_takeS (i := 7) (by kernel_rfl) (by kernel_rfl) ?_
   refine wS [7] ?_
   refine wpS_nil ?_
   refine wpT_ready 2 [12] (by kernel_rfl) (allT_cons ?_ (allT_cons ?_ allT_nil))
   ·refine opT_S (by kernel_rfl) ?_
    refine wpS_does1 (i := 2) (d := some 13) (rem := [_, _, _]) (out := [_, _, _]) rfl (by rfl) rfl Tryz.call36 (spof_d ky hk) rfl HM33.out [] rfl (covS_box 2 rfl (covS_box 0 rfl covS_nil)) rfl rfl ?_
    rintro W35 hm34 hg36
    have HM37 := Lib.hid hm34
    clear hm34
    simp only [Act.put, List.setIfInBounds_toArray, List.set_cons_succ, List.set_cons_zero]
    refine wpS_nil ?_
    refine wpT_takeS (i := 5) (by kernel_rfl) (by kernel_rfl) ?_
    refine wpS_read2 (i := 5) (d := some 16) rfl (by rfl) (fun _ hgk => run_addrMp (pK_lt hk) rfl rfl rfl) rfl ?_
    simp only [Act.put, List.setIfInBounds_toArray, List.set_cons_succ, List.set_cons_zero]
    refine wpS_nil ?_
    refine wpT_takeS (i := 6) (by kernel_rfl) (by kernel_rfl) ?_
    refine wM2 6 (.map (some (s.bk (pK ky)))) (HM37.out.part1 2 rfl (vtC_map (pK_lt hk))) Tryz.underlying89 ?_
    refine wpS_nil ?_
    refine wpT_takeS (i := 8) (by kernel_rfl) (by kernel_rfl) ?_
    refine wpS_read2 (i := 8) (d := some 19) rfl (by rfl) (fun _ hgk => run_getT (K := strK) (val := valB) (z := noHv) hsm.out Tryz.underlying89 (by kernel_rfl) ((hgk.block (by simp)).trans (HM37.out.box 0 rfl)) rfl rfl rfl) rfl ?_
    simp only [Act.put, List.setIfInBounds_toArray, List.set_cons_succ, List.set_cons_zero]
    refine wpS_nil ?_
    refine wpT_takeS (i := 9) (by kernel_rfl) (by kernel_rfl) ?_
    refine wS [9] ?_
    refine wpS_nil ?_
    refine wpT_takeS (i := 10) (by kernel_rfl) (by kernel_rfl) ?_
    refine wS [10] ?_
    refine wpS_nil ?_
    refine wpT_takeS (i := 11) (by kernel_rfl) (by kernel_rfl) ?_
    refine wS [11] ?_
    refine wpS_nil ?_
    refine wpT_ready 12 [] (by kernel_rfl) (allT_cons ?_ allT_nil)
    refine opT_S (by kernel_rfl) ?_
    refine wpS_alloc (i := 12) (dd := 5) (z := bgV noB.k (.slice none 0 0)) (cs := (bgC noB.k (.slice none 0 0)).toArray) rfl (by rfl) rfl (by kernel_rfl) rfl HM37.out (covS_box 2 rfl (covS_box 0 rfl covS_nil)) rfl ?_
    rintro b41 W40 hm39 hg38
    have HM42 := Lib.hid hm39
    clear hm39
    simp only [Act.put, List.setIfInBounds_toArray, List.set_cons_succ, List.set_cons_zero]
    refine wpS_nil ?_
    refine wpT_ready 13 [] (by kernel_rfl) (allT_cons ?_ allT_nil)
    refine opT_S (by kernel_rfl) ?_
    refine wpS_storeA (i := 13) (L2 := [_, _, _]) (cs' := bgC ((ofV s ky).b.k) (.slice (ofV s ky).p (ofV s ky).n (ofV s ky).c)) rfl (by rfl) rfl rfl rfl (by kernel_rfl) (bgC_one _ _ _) HM42.out 0 rfl rfl (by kernel_rfl) (by kernel_rfl) (covS_box 2 rfl (covS_box 0 rfl covS_nil)) rfl ?_
    rintro W45 hm44 hg43
    have HM46 := Lib.hid hm44
    clear hm44
    refine wpS_nil ?_
    refine wpT_takeS (i := 14) (by kernel_rfl) (by kernel_rfl) ?_
    refine wS [14] ?_
    refine wpS_nil ?_
    refine wpT_end (by kernel_rfl) ?_
    refine then_normal ?_
    refine ⟨by kernel_rfl, ?_⟩
    exact ⟨rfl, (Mem.only (M := [_, _, _]) HM46.out [1, 1, 1] rfl)⟩
   ·refine opT_S (by kernel_rfl) ?_
    refine wpS_alloc (i := 12) (dd := 5) (z := bgV noB.k (.slice none 0 0)) (cs := (bgC noB.k (.slice none 0 0)).toArray) rfl (by rfl) rfl (by kernel_rfl) rfl HM33.out (covS_box 2 rfl (covS_box 0 rfl covS_nil)) rfl ?_
    rintro b50 W49 hm48 hg47
    have HM51 := Lib.hid hm48
    clear hm48
    simp only [Act.put, List.setIfInBounds_toArray, List.set_cons_succ, List.set_cons_zero]
    refine wpS_nil ?_
    refine wpT_ready 2 [] (by kernel_rfl) (allT_cons ?_ allT_nil)
    refine opT_S (by kernel_rfl) ?_
    refine wpS_does1 (i := 2) (d := some 13) (rem := [_, _, _, _]) (out := [_, _, _, _]) rfl (by rfl) rfl Tryz.call36 (spof_d ky hk) rfl HM51.out [] rfl (covS_box 3 rfl (covS_box 1 rfl covS_nil)) rfl rfl ?_
    rintro W53 hm52 hg54
    have HM55 := Lib.hid hm52
    clear hm52
    simp only [Act.put, List.setIfInBounds_toArray, List.set_cons_succ, List.set_cons_zero]
    refine wpS_nil ?_
    refine wpT_takeS (i := 5) (by kernel_rfl) (by kernel_rfl) ?_
    refine wpS_read2 (i := 5) (d := some 16) rfl (by rfl) (fun _ hgk => run_addrMp (pK_lt hk) rfl rfl rfl) rfl ?_
    simp only [Act.put, List.setIfInBounds_toArray, List.set_cons_succ, List.set_cons_zero]
    refine wpS_nil ?_
    refine wpT_takeS (i := 6) (by kernel_rfl) (by kernel_rfl) ?_
    refine wM2 6 (.map (some (s.bk (pK ky)))) (HM55.out.part1 3 rfl (vtC_map (pK_lt hk))) Tryz.underlying89 ?_
    refine wpS_nil ?_
    refine wpT_takeS (i := 8) (by kernel_rfl) (by kernel_rfl) ?_
    refine wpS_read2 (i := 8) (d := some 19) rfl (by rfl) (fun _ hgk => run_getT (K := strK) (val := valB) (z := noHv) hsm.out Tryz.underlying89 (by kernel_rfl) ((hgk.block (by simp)).trans (HM55.out.box 1 rfl)) rfl rfl rfl) rfl ?_
    simp only [Act.put, List.setIfInBounds_toArray, List.set_cons_succ, List.set_cons_zero]
    refine wpS_nil ?_
    refine wpT_takeS (i := 9) (by kernel_rfl) (by kernel_rfl) ?_
    refine wS [9] ?_
    refine wpS_nil ?_
    refine wpT_takeS (i := 10) (by kernel_rfl) (by kernel_rfl) ?_
    refine wS [10] ?_
    refine wpS_nil ?_
    refine wpT_takeS (i := 11) (by kernel_rfl) (by kernel_rfl) ?_
    refine wS [11] ?_
    refine wpS_nil ?_
    refine wpT_ready 13 [] (by kernel_rfl) (allT_cons ?_ allT_nil)
    refine opT_S (by kernel_rfl) ?_
    refine wpS_storeA (i := 13) (L2 := [_, _, _]) (cs' := bgC ((ofV s ky).b.k) (.slice (ofV s ky).p (ofV s ky).n (ofV s ky).c)) rfl (by rfl) rfl rfl rfl (by kernel_rfl) (bgC_one _ _ _) HM55.out 0 rfl rfl (by kernel_rfl) (by kernel_rfl) (covS_box 2 rfl (covS_box 0 rfl covS_nil)) rfl ?_
    rintro W58 hm57 hg56
    have HM59 := Lib.hid hm57
    clear hm57
    refine wpS_nil ?_
    refine wpT_takeS (i := 14) (by kernel_rfl) (by kernel_rfl) ?_
    refine wS [14] ?_
    refine wpS_nil ?_
    refine wpT_end (by kernel_rfl) ?_
    refine then_normal ?_
    refine ⟨by kernel_rfl, ?_⟩
    exact ⟨rfl, (Mem.only (M := [_, _, _]) HM59.out [1, 1, 1] rfl)⟩
  rintro vs W' ⟨e6, hm⟩
  simp only [putAll, List.map_cons, List.map_nil, Act.put, List.setIfInBounds_toArray, List.set_cons_succ, List.set_cons_zero]
  rw [e6]
  clear e6
  have HM60 := Lib.hid hm
  clear hm
  refine then_normal (wp_seq (wQ ?_))
  refine wp_cond_true rfl (wp_seq (wQ ?_))
  refine wp_ret (then_ret (bodyPost_ret (results_tmp rfl _ _ _) rfl ?_))
  rw [show fullV S ky = false from by unfold fullV; rw [hh.out]; rfl]
  exact does_ret (Mem.only (M := [_, _]) (Mem.mapBack (pK_lt hk) (Mem.only (M := [_, _, _]) HM60.out [0, 0, 0] rfl)) [1, 0] rfl) rfl rfl
theorem nokey_get {S : Vt} (hV : VtOk S) {k : ByteArray} (hk : keyB k = false) : getK S.b k = none := by
 cases hg : getK S.b k with
 | none => rfl
 | some x =>
  have := hV.key _ (getK_mem hg)
  rw [hk] at this
  cases this
theorem Mem.noBag {b : Bg} {L : List At} {H0 : Nat → Prop} {w W : World} (hb : b = noB) (h : Mem L H0 w W) : Mem (bagT (bgV noB.k (.slice none 0 0)) b :: L) H0 w W := by
 subst hb
 exact Mem.toBag (x := noB) (p := none) (c := 0) (Mem.nilRow elemV h)
set_option maxHeartbeats 4000000 in
set_option maxRecDepth 100000 in
theorem vbag_d (dv dl : Nat) (S : Vt) (hV : VtOk S) (k : ByteArray) : DoesU Tryz.prog 35 #[.pointer (some ⟨dv, 0, none⟩), .string k] [vtT dv dl S] (fun u => [bagT u (bagV S k), vtT dv dl S]) := by
 intro w H hp
 have HM0 := Lib.hid (mem_refl hp)
 clear hp
 obtain ⟨s, hs', HM1⟩ := Mem.vt HM0.out
 clear HM0
 have HM0 := Lib.hid HM1
 clear HM1
 have hs := Lib.hid hs'
 clear hs'
 go_enter Tryz.func35, Tryz.ntmps35
 refine wp_seq (wN [(0, 3)] ?_)
 refine wpS_alloc (i := 0) (dd := 4) (z := bgV noB.k (.slice none 0 0)) (cs := (bgC noB.k (.slice none 0 0)).toArray) rfl (by rfl) rfl (by kernel_rfl) rfl HM0.out covS_nil rfl ?_
 rintro b3 W2 hm1 -
 have HM4 := Lib.hid hm1
 clear hm1
 simp only [Act.put, List.setIfInBounds_toArray, List.set_cons_succ, List.set_cons_zero]
 refine wZ (wp_seq (wp_seq ?_))
 cases hkb' : keyB k
 ·have hkb := Lib.hid hkb'
  clear hkb'
  refine wN [(0, 1), (1, 1), (2, 1), (3, 1), (4, 3), (5, 1), (6, 1)] (wT [0, 1, 2, 3] ?_)
  refine wpS_does1 (i := 4) (d := some 10) (rem := [_, _, _, _]) (out := [_, _, _, _]) rfl (by rfl) rfl Tryz.call61 (spmay_d k) rfl HM4.out [] rfl covS_nil rfl rfl ?_
  rintro W6 hm5 -
  rw [hkb.out]
  have HM7 := Lib.hid hm5
  clear hm5
  simp only [Act.put, List.setIfInBounds_toArray, List.set_cons_succ, List.set_cons_zero]
  refine wT [5, 6] ?_
  refine wZ (wp_cond_true rfl (wp_seq ?_))
  have hnb : Hid (bagV S k = noB) := Lib.hid (by unfold bagV; rw [show getK S.b k = none from nokey_get hV hkb.out]; rfl)
  refine wN [(0, 1), (1, 3)] (wT [0] ?_)
  refine wpS_storeA (i := 1) (L2 := [_, _, _]) (cs' := bgC (noB.k) (.slice none 0 0)) rfl (by rfl) rfl rfl rfl (by kernel_rfl) (bgC_one _ _ _) HM7.out 0 rfl rfl (by kernel_rfl) (by kernel_rfl) covS_nil rfl ?_
  rintro W9 hm8 -
  have HM10 := Lib.hid hm8
  clear hm8
  refine wZ (wp_ret (then_ret ?_))
  refine ret_cell rfl HM10.out 0 rfl rfl Tryz.underlying41 rfl (by kernel_rfl) rfl ?_
  exact doesU_ret (post := fun u => [bagT u (bagV S k), vtT dv dl S]) (Mem.only (M := [_, _]) (Mem.toVt s hs.out (Mem.only (M := [_, _, _, _]) (Mem.noBag hnb.out (Mem.only (M := [_, _, _]) HM10.out [1, 1, 1] rfl)) [1, 1, 1, 0] rfl)) [1, 0] rfl) rfl
 ·have hk := hkb'
  have hkb := Lib.hid hkb'
  clear hkb'
  have hbv := Lib.hid (hs.out.ofV hk).1
  have hrd := Lib.hid (hs.out.ofV hk).2.2.1
  refine wN [(0, 1), (1, 1), (2, 1), (3, 1), (4, 3), (5, 1), (6, 1)] (wT [0, 1, 2, 3] ?_)
  refine wpS_does1 (i := 4) (d := some 10) (rem := [_, _, _, _]) (out := [_, _, _, _]) rfl (by rfl) rfl Tryz.call61 (spmay_d k) rfl HM4.out [] rfl covS_nil rfl rfl ?_
  rintro W12 hm11 -
  rw [hkb.out]
  have HM13 := Lib.hid hm11
  clear hm11
  simp only [Act.put, List.setIfInBounds_toArray, List.set_cons_succ, List.set_cons_zero]
  refine wT [5, 6] ?_
  refine wZ (wp_cond_false rfl (wp_skip (then_normal (wp_seq (wN [(0, 1), (1, 1), (2, 3), (3, 3), (4, 3)] (wT [0, 1] ?_))))))
  refine wpS_does2 (i := 2) (d := some 16) (rem := [_, _]) (out := [_, _, _, _]) rfl (by rfl) rfl Tryz.call64 (vof_d dv dl S s k hk) rfl rfl HM13.out [1, 1] rfl covS_nil rfl rfl ?_
  rintro W15 hm14 -
  have HM16 := Lib.hid hm14
  clear hm14
  simp only [Act.put, List.setIfInBounds_toArray, List.set_cons_succ, List.set_cons_zero]
  refine wpS_alloc (i := 3) (dd := 5) (z := bgV noB.k (.slice none 0 0)) (cs := (bgC noB.k (.slice none 0 0)).toArray) rfl (by rfl) rfl (by kernel_rfl) rfl HM16.out covS_nil rfl ?_
  rintro b19 W18 hm17 -
  have HM20 := Lib.hid hm17
  clear hm17
  simp only [Act.put, List.setIfInBounds_toArray, List.set_cons_succ, List.set_cons_zero]
  refine wpS_storeA (i := 4) (L2 := [_, _, _, _]) (cs' := bgC ((ofV s k).b.k) (.slice (ofV s k).p (ofV s k).n (ofV s k).c)) rfl (by rfl) rfl rfl rfl (by kernel_rfl) (bgC_one _ _ _) HM20.out 0 rfl rfl (by kernel_rfl) (by kernel_rfl) covS_nil rfl ?_
  rintro W22 hm21 -
  have HM23 := Lib.hid hm21
  clear hm21
  refine wZ (wp_seq (wN [(0, 1), (1, 1), (2, 3), (3, 1), (4, 3)] (wT [0] ?_)))
  refine wM 1 (.slice (ofV s k).p (ofV s k).n (ofV s k).c) (HM23.out.part1 0 rfl bgC_sl) Tryz.underlying39 ?_
  refine wpS_doesU1 (i := 2) (d := some 19) (rem := [_, _, _, _]) rfl (by rfl) rfl Tryz.call77 (vclone_d s.G _ (ofV s k).b.v hrd.out (by rw [← hbv.out]; exact Nat.le_trans (bagV_len hV k) (by decide))) rfl HM23.out [4] rfl covS_nil (fun _ => rfl) rfl ?_
  rintro u26 W25 hm24 -
  obtain ⟨pw, cw, rfl⟩ := row_form (Mem.src hm24 0 rfl rowT_reads)
  have HM27 := Lib.hid hm24
  clear hm24
  simp only [Act.put, List.setIfInBounds_toArray, List.set_cons_succ, List.set_cons_zero]
  refine wT [3] ?_
  refine wpS_store1 (i := 4) (v := .slice _ _ _) (L2 := [_, _, _, _, _]) (cs' := bgC (ofV s k).b.k (.slice pw (ofV s k).b.v.length cw)) rfl (by rfl) rfl rfl rfl rfl (by kernel_rfl) rfl HM27.out 2 rfl rfl (by kernel_rfl) (by kernel_rfl) covS_nil rfl ?_
  rintro W29 hm28 -
  have HM30 := Lib.hid hm28
  clear hm28
  refine wZ (wp_seq (wN [(0, 1), (1, 3)] ?_))
  refine wL 0 (bgC ((ofV s k).b.k) (.slice pw (ofV s k).b.v.length cw)) (HM30.out.part 0 rfl (bgC_all)) Tryz.underlying41 ?_
  refine wpS_storeA (i := 1) (L2 := [_, _, _, _, _]) (cs' := bgC ((ofV s k).b.k) (.slice pw (ofV s k).b.v.length cw)) rfl (by rfl) rfl rfl rfl (by kernel_rfl) (bgC_one _ _ _) HM30.out 5 rfl rfl (by kernel_rfl) (by kernel_rfl) covS_nil rfl ?_
  rintro W32 hm31 -
  have HM33 := Lib.hid hm31
  clear hm31
  refine wZ (wp_ret ?_)
  refine ret_cell rfl HM33.out 0 rfl rfl Tryz.underlying41 rfl (by kernel_rfl) rfl ?_
  rw [hbv.out]
  exact doesU_ret (post := fun u => [bagT u (ofV s k).b, vtT dv dl S]) (Mem.only (M := [_, _]) (Mem.toVt s hs.out (Mem.only (M := [_, _, _, _]) (Mem.toBag (x := (ofV s k).b) (Mem.only (M := [_, _, _, _]) HM33.out [2, 3, 3, 2] rfl)) [1, 1, 1, 0] rfl)) [1, 0] rfl) rfl
theorem keys_out {S : Vt} (hV : VtOk S) {n : Int} (hn : ¬ (0 ≤ n ∧ n < 16)) : keysV S n = [] := by
 refine List.eq_nil_iff_forall_not_mem.2 fun k hk => ?_
 obtain ⟨⟨x, hx⟩, h⟩ := mem_keysV.1 hk
 have := ofK_range (hV.key _ hx)
 exact hn (by rw [← h]; exact this)
theorem Mem.noTexts {l : List ByteArray} {L : List At} {H0 : Nat → Prop} {w W : World} (hl : l = []) (h : Mem L H0 w W) : Mem (textsT (.slice none 0 0) l :: L) H0 w W := by
 subst hl
 exact Mem.addEx (none, 0) (Mem.addPr rfl (Mem.nilRow elemS h))
set_option maxHeartbeats 4000000 in
set_option maxRecDepth 100000 in
theorem vkeys_d (dv dl : Nat) (S : Vt) (hV : VtOk S) (hl : S.b.length ≤ 3000) (n : Int) : DoesU Tryz.prog 33 #[.pointer (some ⟨dv, 0, none⟩), .int .i64 n] [vtT dv dl S] (fun u => [textsT u (keysV S n), vtT dv dl S]) := by
 intro w H hp
 have HM0 := Lib.hid (mem_refl hp)
 clear hp
 obtain ⟨s, hs', HM1⟩ := Mem.vt HM0.out
 clear HM0
 have HM0 := Lib.hid HM1
 clear HM1
 have hs := Lib.hid hs'
 clear hs'
 go_enter Tryz.func33, Tryz.ntmps33
 refine wp_seq (wQ ?_)
 refine wp_seq (wp_seq ?_)
 cases hpb' : decide (0 ≤ n ∧ n < 16)
 ·have hpb := Lib.hid hpb'
  clear hpb'
  refine wN [(0, 1), (1, 1), (2, 1), (3, 1), (4, 3), (5, 1), (6, 1)] (wT [0, 1, 2, 3] ?_)
  refine wpS_does1 (i := 4) (d := some 9) (rem := [_, _, _]) (out := [_, _, _]) rfl (by rfl) rfl Tryz.call74 (vpart_d n) rfl HM0.out [] rfl covS_nil rfl rfl ?_
  rintro W2 hm1 -
  rw [hpb.out]
  have HM3 := Lib.hid hm1
  clear hm1
  simp only [Act.put, List.setIfInBounds_toArray, List.set_cons_succ, List.set_cons_zero]
  refine wT [5, 6] ?_
  refine wZ (wp_cond_true rfl (wp_seq (wQ ?_)))
  refine wp_ret (then_ret (bodyPost_ret (results_tmp rfl _ _ _) rfl ?_))
  exact doesU_ret (post := fun u => [textsT u (keysV S n), vtT dv dl S]) (Mem.noTexts (keys_out hV (of_decide_eq_false hpb.out)) (Mem.toVt s hs.out (Mem.only (M := [_, _, _]) HM3.out [0, 0, 0] rfl))) rfl
 ·have hn := Lib.hid (of_decide_eq_true hpb')
  have hpb := Lib.hid hpb'
  clear hpb'
  refine wN [(0, 1), (1, 1), (2, 1), (3, 1), (4, 3), (5, 1), (6, 1)] (wT [0, 1, 2, 3] ?_)
  refine wpS_does1 (i := 4) (d := some 9) (rem := [_, _, _]) (out := [_, _, _]) rfl (by rfl) rfl Tryz.call74 (vpart_d n) rfl HM0.out [] rfl covS_nil rfl rfl ?_
  rintro W5 hm4 -
  rw [hpb.out]
  have HM6 := Lib.hid hm4
  clear hm4
  simp only [Act.put, List.setIfInBounds_toArray, List.set_cons_succ, List.set_cons_zero]
  refine wT [5, 6] ?_
  refine wZ (wp_cond_false rfl (wp_skip (then_normal (wp_seq ?_))))
  obtain ⟨j, rfl⟩ := Int.eq_ofNat_of_zero_le hn.out.1
  have hj : Hid (j < 16) := Lib.hid (by have := hn.out; omega)
  refine wN [(0, 1), (1, 1), (2, 1), (3, 1), (4, 1), (5, 1), (6, 3), (7, 3), (8, 1)] (wT [0, 1, 2, 3] ?_)
  refine wR 4 (run_addrMp (j := j) (hj.out) rfl rfl rfl) ?_
  refine wM 5 (.map (some (s.bk (j)))) (HM6.out.part1 0 rfl (vtC_map (hj.out))) Tryz.underlying89 ?_
  refine wpS_doesU1 (i := 6) (d := some 18) (rem := [_, _, _]) rfl (by rfl) rfl Tryz.call76 (vmkeys_d _) rfl HM6.out [] rfl covS_nil (fun _ => rfl) rfl ?_
  rintro u9 W8 hm7 -
  obtain ⟨c, rfl, hm7q⟩ := Mem.it hm7
  clear hm7
  have HM10 := Lib.hid hm7q
  clear hm7q
  simp only [Act.put, List.setIfInBounds_toArray, List.set_cons_succ, List.set_cons_zero]
  refine wpS_doesU1 (i := 7) (d := some 19) (rem := [_, _]) rfl (by rfl) rfl Tryz.call75 (vsorted_d hs.out hV hl hj.out c) rfl HM10.out [0, 1] rfl covS_nil (fun _ => rfl) rfl ?_
  rintro u13 W12 hm11 -
  skip
  have HM14 := Lib.hid hm11
  clear hm11
  simp only [Act.put, List.setIfInBounds_toArray, List.set_cons_succ, List.set_cons_zero]
  refine wT [8] ?_
  refine wZ (wp_ret (bodyPost_ret (results_tmp rfl _ _ _) rfl ?_))
  exact doesU_ret (post := fun u => [textsT u (keysV S (j : Int)), vtT dv dl S]) (Mem.only (M := [_, _]) (Mem.toVt s hs.out (Mem.only (M := [_, _, _, _]) HM14.out [2, 1, 1, 0] rfl)) [1, 0] rfl) rfl
end Go.Proofs.YtcchkkdbagpgjaaGreat
