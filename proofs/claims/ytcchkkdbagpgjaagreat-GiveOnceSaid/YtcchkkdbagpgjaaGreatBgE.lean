/- BgE: BgW, BgE, BgB. -/
import Derived.Test.YtcchkkdbagpgjaaGreatBgN
import Derived.Test.YtcchkkdbagpgjaaGreatQ16
import Derived.Test.YtcchkkdbagpgjaaGreatPA
namespace Go.Proofs.YtcchkkdbagpgjaaGreat
section
open Go Go.RowKit Go.BigFrame
set_option maxHeartbeats 4000000 in
set_option maxRecDepth 100000 in
theorem bmay_d (R : At) (sa : Value) (a : Bg) (ha : Reads elemV R sa a.v) (la : a.v.length ≤ 4398046510976) : Does Tryz.prog 72 #[bgV a.k sa] [R] (.bool (mayB a)) [R] := by
 intro w H hp
 have HM0 := Lib.hid (mem_refl hp)
 clear hp
 obtain ⟨pa, ca, rfl⟩ := row_form (Mem.src HM0.out 0 rfl ha)
 go_enter Tryz.func72, Tryz.ntmps72
 refine wp_seq (wN [(0, 3), (1, 1)] ?_)
 refine wBh 0 HM0 fun b3 W2 HM4 => ?_
 refine wT [1] ?_
 refine wZ (wp_seq (wp_seq ?_))
 rcases (show mayV a.k = false ∨ (mayV a.k = true ∧ ¬ a.v.length ≤ 32) ∨ (mayV a.k = true ∧ a.v.length ≤ 32) from by cases mayV a.k <;> by_cases h : a.v.length ≤ 32 <;> simp [h]) with hm1 | ⟨hm1, hm2⟩ | ⟨hm1, hm2⟩
 ·replace hm1 := Lib.hid hm1
  refine wN [(0, 1), (1, 1), (2, 3), (3, 1), (4, 1), (5, 1), (6, 1), (7, 1), (8, 1), (9, 1)] (wT [0] ?_)
  refine wL 1 (vcC (a.k)) (HM4.out.part 0 rfl (bgC_vc)) Tryz.underlying38 ?_
  refine wD1 2 [_, _] [_, _] Tryz.call99 (cmay_d a.k) HM4 [] fun W6 hm5 => ?_
  rw [hm1.out]
  have HM7 := Lib.hid hm5
  clear hm5
  refine wT [3, 4, 5] ?_
  refine wK 6 ?_
  refine wT [7, 8, 9] ?_
  refine wZ (wp_cond_true rfl (wp_seq (wQ ?_)))
  refine wp_ret (then_ret (bodyPost_ret (results_tmp rfl _ _ _) rfl ?_))
  rw [mayB_no1 hm1.out]
  exact does_ret (Mem.only (M := [_]) HM7.out [1] rfl) rfl rfl
 ·have g1 : decide ((32 : Int) < (a.v.length : Int)) = true := decide_eq_true (by omega)
  have g1' : decide (32 < a.v.length) = true := decide_eq_true (by omega)
  replace hm1 := Lib.hid hm1
  replace hm2 := Lib.hid hm2
  refine wN [(0, 1), (1, 1), (2, 3), (3, 1), (4, 1), (5, 1), (6, 1), (7, 1), (8, 1), (9, 1)] (wT [0] ?_)
  refine wL 1 (vcC (a.k)) (HM4.out.part 0 rfl (bgC_vc)) Tryz.underlying38 ?_
  refine wD1 2 [_, _] [_, _] Tryz.call99 (cmay_d a.k) HM4 [] fun W9 hm8 => ?_
  rw [hm1.out]
  have HM10 := Lib.hid hm8
  clear hm8
  refine wT [3, 4, 5] ?_
  refine wM 6 (.slice pa a.v.length ca) (HM10.out.part1 0 rfl bgC_sl) Tryz.underlying39 ?_
  refine wT [7, 8, 9] ?_
  refine wZ (wp_cond_true rfl (wp_seq (wQ ?_)))
  refine wp_ret (then_ret (bodyPost_ret (results_tmp rfl _ _ _) rfl ?_))
  rw [mayB_no2 hm2.out]
  exact does_ret (Mem.only (M := [_]) HM10.out [1] rfl) rfl rfl
 ·have g1 : decide ((32 : Int) < (a.v.length : Int)) = false := decide_eq_false (by omega)
  have g1' : decide (32 < a.v.length) = false := decide_eq_false (by omega)
  replace hm1 := Lib.hid hm1
  replace hm2 := Lib.hid hm2
  refine wN [(0, 1), (1, 1), (2, 3), (3, 1), (4, 1), (5, 1), (6, 1), (7, 1), (8, 1), (9, 1)] (wT [0] ?_)
  refine wL 1 (vcC (a.k)) (HM4.out.part 0 rfl (bgC_vc)) Tryz.underlying38 ?_
  refine wD1 2 [_, _] [_, _] Tryz.call99 (cmay_d a.k) HM4 [] fun W12 hm11 => ?_
  rw [hm1.out]
  have HM13 := Lib.hid hm11
  clear hm11
  refine wT [3, 4, 5] ?_
  refine wM 6 (.slice pa a.v.length ca) (HM13.out.part1 0 rfl bgC_sl) Tryz.underlying39 ?_
  refine wT [7, 8, 9] ?_
  refine wZ (wp_cond_false rfl (wp_skip (then_normal (wp_seq (wp_seq (wN [(0, 1), (1, 1), (2, 1), (3, 1)] (wT [0] ?_)))))))
  refine wM 1 (.slice pa a.v.length ca) (HM13.out.part1 0 rfl bgC_sl) Tryz.underlying39 ?_
  refine wT [2, 3] ?_
  refine wZ (wp_block ?_)
  refine wp_loop_F [2, 3, 4, 18, 19, 20, 21, 22, 23, 24, 25, 26, 27, 28, 29, 30, 31, 32, 33, 34, 35, 36, 37, 38, 39, 40, 41, 42, 43, 44, 45, 46, 47, 48, 49, 50] (fun n vs W' => ∃ k : Nat, n = a.v.length - k ∧ vs 18 = .int .i64 (k : Int) ∧ k ≤ a.v.length ∧ OkT a k ∧ Mem [boxT b3 (.cells (bgC a.k (.slice pa a.v.length ca)).toArray 41 (0, 0)), R] H w W') (n0 := a.v.length) ?_ ?_
  ·exact ⟨0, rfl, rfl, Nat.zero_le _, okT_zero a, (Mem.only (M := [_, _]) HM13.out [0, 0] rfl)⟩
  rintro n vs W' ⟨k, rfl, e18, hk, hok', hm⟩
  simp only [putAll, List.map_cons, List.map_nil, Act.put, List.setIfInBounds_toArray, List.set_cons_succ, List.set_cons_zero]
  rw [e18]
  clear e18
  have hok := Lib.hid hok'
  clear hok'
  have HM14 := Lib.hid hm
  clear hm
  refine wp_seq (wQ ?_)
  refine wp_seq ?_
  refine wp_cond_split rfl (fun h15 => ?_) (fun h15 => ?_)
  ·have hk1 : k + 1 ≤ a.v.length := by have : (k : Int) < ((a.v.length : Nat) : Int) := (by simpa using h15); omega
   clear h15
   obtain ⟨y, hy'⟩ : ∃ y, a.v[k]? = some y := ⟨_, List.getElem?_eq_getElem (hk1)⟩
   have hy := Lib.hid hy'
   clear hy'
   refine wp_skip (then_normal (wp_seq (wp_block (wp_seq (wN [(0, 1), (1, 1), (2, 1), (3, 3), (4, 1), (5, 3)] (wT [0] ?_))))))
   refine wI elemV 1 (HM14.out.row 1 rfl (fun W H h => rowAt_src (ha W H h))) (hy.out) fun eb16 eo17 hc18 => ?_
   refine wL 2 [.int .i64 y.1.1, .int .i64 y.1.2, .string y.2] hc18 Tryz.underlying140 ?_
   refine wpS_alloc (i := 3) (dd := 4) (z := .agg #[.int .i64 0, .int .i64 0, .string ByteArray.empty]) (cs := #[.int .i64 0, .int .i64 0, .string ByteArray.empty]) rfl (by rfl) rfl (by kernel_rfl) rfl HM14.out covS_nil rfl ?_
   rintro b21 W20 hm19 -
   have HM22 := Lib.hid hm19
   clear hm19
   simp only [Act.put, List.setIfInBounds_toArray, List.set_cons_succ, List.set_cons_zero]
   refine wT [4] ?_
   refine wXh 5 [_, _] [.int .i64 y.1.1, .int .i64 y.1.2, .string y.2] HM22 0 fun W24 HM25 => ?_
   refine wZ (wp_seq (wp_seq ?_))
   rcases (show hasV a.k y.1 = false ∨ (hasV a.k y.1 = true ∧ 64 < y.2.size) ∨ (hasV a.k y.1 = true ∧ ¬ 64 < y.2.size) from by cases hasV a.k y.1 <;> by_cases h : 64 < y.2.size <;> simp [h]) with hhas | ⟨hhas, hsz⟩ | ⟨hhas, hsz⟩
   ·have hoy : Hid (okV a.k y = false) := Lib.hid (by unfold okV; rw [hhas]; rfl)
    replace hhas := Lib.hid hhas
    refine wN [(0, 1), (1, 1), (2, 1), (3, 1), (4, 3), (5, 1), (6, 1), (7, 1), (8, 1), (9, 1), (10, 1), (11, 1)] (wT [0] ?_)
    refine wL 1 (vcC (a.k)) (HM25.out.part 1 rfl (bgC_vc)) Tryz.underlying38 ?_
    have Cb4 := Mem.cell HM25.out 0 rfl
    refine wT [2, 3] ?_
    clear Cb4
    refine wD2 4 [_, _, _] [_, _, _] Tryz.call101 (chas_d a.k y.1.1 y.1.2) HM25 [] fun W27 hm26 => ?_
    rw [show hasV a.k (y.1.1, y.1.2) = _ from hhas.out]
    have HM28 := Lib.hid hm26
    clear hm26
    have Cb4 := Mem.cell HM28.out 0 rfl
    refine wT [5, 6, 7, 8, 9, 10, 11] ?_
    clear Cb4
    refine wZ (wp_cond_true rfl (wp_seq (wQ ?_)))
    refine wp_ret ?_
    refine then_ret (block_ret (then_ret (then_ret (block_ret (then_ret ?_)))))
    refine bodyPost_ret (results_tmp rfl _ _ _) rfl ?_
    rw [mayB_no3 hy.out hoy.out]
    exact does_ret (Mem.only (M := [_]) HM28.out [2] rfl) rfl rfl
   ·have g2 : decide ((64 : Int) < (y.2.size : Int)) = true := decide_eq_true (by omega)
    have g2' : decide (64 < y.2.size) = true := decide_eq_true hsz
    have hoy : Hid (okV a.k y = false) := Lib.hid (by unfold okV; rw [hhas, decide_eq_false (by omega)]; rfl)
    replace hhas := Lib.hid hhas
    replace hsz := Lib.hid hsz
    refine wN [(0, 1), (1, 1), (2, 1), (3, 1), (4, 3), (5, 1), (6, 1), (7, 1), (8, 1), (9, 1), (10, 1), (11, 1)] (wT [0] ?_)
    refine wL 1 (vcC (a.k)) (HM25.out.part 1 rfl (bgC_vc)) Tryz.underlying38 ?_
    have Cb4 := Mem.cell HM25.out 0 rfl
    refine wT [2, 3] ?_
    clear Cb4
    refine wD2 4 [_, _, _] [_, _, _] Tryz.call101 (chas_d a.k y.1.1 y.1.2) HM25 [] fun W30 hm29 => ?_
    rw [show hasV a.k (y.1.1, y.1.2) = _ from hhas.out]
    have HM31 := Lib.hid hm29
    clear hm29
    have Cb4 := Mem.cell HM31.out 0 rfl
    refine wT [5, 6, 7, 8, 9, 10, 11] ?_
    clear Cb4
    refine wZ (wp_cond_true rfl (wp_seq (wQ ?_)))
    refine wp_ret ?_
    refine then_ret (block_ret (then_ret (then_ret (block_ret (then_ret ?_)))))
    refine bodyPost_ret (results_tmp rfl _ _ _) rfl ?_
    rw [mayB_no3 hy.out hoy.out]
    exact does_ret (Mem.only (M := [_]) HM31.out [2] rfl) rfl rfl
   ·have g2 : decide ((64 : Int) < (y.2.size : Int)) = false := decide_eq_false (by omega)
    have g2' : decide (64 < y.2.size) = false := decide_eq_false hsz
    have hoy : Hid (okV a.k y = true) := Lib.hid (by unfold okV; rw [hhas, decide_eq_true (by omega)]; rfl)
    replace hhas := Lib.hid hhas
    replace hsz := Lib.hid hsz
    refine wN [(0, 1), (1, 1), (2, 1), (3, 1), (4, 3), (5, 1), (6, 1), (7, 1), (8, 1), (9, 1), (10, 1), (11, 1)] (wT [0] ?_)
    refine wL 1 (vcC (a.k)) (HM25.out.part 1 rfl (bgC_vc)) Tryz.underlying38 ?_
    have Cb4 := Mem.cell HM25.out 0 rfl
    refine wT [2, 3] ?_
    clear Cb4
    refine wD2 4 [_, _, _] [_, _, _] Tryz.call101 (chas_d a.k y.1.1 y.1.2) HM25 [] fun W33 hm32 => ?_
    rw [show hasV a.k (y.1.1, y.1.2) = _ from hhas.out]
    have HM34 := Lib.hid hm32
    clear hm32
    have Cb4 := Mem.cell HM34.out 0 rfl
    refine wT [5, 6, 7, 8, 9, 10, 11] ?_
    clear Cb4
    refine wZ (wp_cond_false rfl (wp_skip (then_normal (wp_seq ?_))))
    rcases (show k = 0 ∨ ∃ j, k = j + 1 from by cases k with | zero => exact .inl rfl | succ j => exact .inr ⟨j, rfl⟩) with rfl | ⟨j, rfl⟩
    ·have g3 : decide ((0 : Int) < ((0 : Nat) : Int)) = false := by decide
     have hpr : Hid ((0 : Nat) = 0 ∨ ∃ u, a.v[0 - 1]? = some u ∧ cmpE u.1 y.1 < 0) := Lib.hid (.inl rfl)
     refine wp_region_M (fun k => k ∈ ([b3, b21] : List Nat)) [(0, 1), (1, 1), (2, 1), (3, 1), (4, 1), (5, 1), (6, 1), (7, 1), (8, 1), (9, 1), (10, 1), (11, 1), (12, 3), (13, 1), (14, 1)] (by kernel_rfl) (by kernel_rfl) HM34.out ?_
     intro W35 hm36
     have HM37 := Lib.hid hm36
     clear hm36
     refine wT [0, 1, 2, 3] ?_
     refine wK 4 ?_
     refine wT [5, 6] ?_
     refine wK 7 ?_
     refine wT [8] ?_
     refine wK 9 ?_
     have Cb4 := Mem.cell HM37.out 0 rfl
     refine wT [10, 11] ?_
     clear Cb4
     refine wK 12 ?_
     refine wT [13, 14] ?_
     refine wZ (wp_cond_false rfl (wp_skip (block_normal (then_normal (wQ ?_)))))
     refine ⟨by kernel_rfl, ?_⟩
     refine ⟨a.v.length - (0 + 1), by omega, 0 + 1, rfl, rfl, hk1, okT_step hok.out hy.out hoy.out hpr.out, (Mem.only (M := [_, _]) HM37.out [1, 1] rfl)⟩
    ·have g3 : decide ((0 : Int) < ((j + 1 : Nat) : Int)) = true := decide_eq_true (by omega)
     have g3n : decide (0 < j + 1) = true := decide_eq_true (by omega)
     obtain ⟨u, hu'⟩ : ∃ u, a.v[j]? = some u := ⟨_, List.getElem?_eq_getElem (by omega)⟩
     have hu := Lib.hid hu'
     clear hu'
     obtain ⟨b, hb'⟩ := bool_letter (decide (0 ≤ cmpE u.1 y.1))
     have hbc := Lib.hid hb'
     clear hb'
     refine wp_region_M (fun k => k ∈ ([b3, b21] : List Nat)) [(0, 1), (1, 1), (2, 1), (3, 1), (4, 1), (5, 1), (6, 1), (7, 1), (8, 1), (9, 1), (10, 1), (11, 1), (12, 3), (13, 1), (14, 1)] (by kernel_rfl) (by kernel_rfl) HM34.out ?_
     intro W38 hm39
     have HM40 := Lib.hid hm39
     clear hm39
     refine wT [0, 1, 2, 3] ?_
     refine wM 4 (.slice pa a.v.length ca) (HM40.out.part1 1 rfl bgC_sl) Tryz.underlying39 ?_
     refine wT [5, 6] ?_
     refine wI elemV 7 (HM40.out.row 2 rfl (fun W H h => rowAt_src (ha W H h))) (hu.out) fun eb41 eo42 hc43 => ?_
     refine wT [8] ?_
     refine wL 9 [.int .i64 u.1.1, .int .i64 u.1.2] (vl_dot hc43) Tryz.underlying72 ?_
     have Cb4 := Mem.cell HM40.out 0 rfl
     refine wT [10, 11] ?_
     clear Cb4
     refine wD2h (hS := (covS_box 1 rfl (covS_box 0 rfl covS_nil))) 12 [_, _, _] [_, _, _] Tryz.call118 (ccmp_d u.1.1 u.1.2 y.1.1 y.1.2) HM40 [] fun W45 HM47 => ?_
     refine wT [13, 14] ?_
     refine wZ ?_
     refine wp_cond_split rfl (fun h48 => ?_) (fun h48 => ?_)
     ·have hlt : Hid (¬ cmpE u.1 y.1 < 0) := Lib.hid (by have h0 : decide (0 ≤ cmpE u.1 y.1) = true := h48; have := of_decide_eq_true h0; omega)
      clear h48
      refine wp_seq (wQ ?_)
      refine wp_ret ?_
      refine block_ret (then_ret (then_ret (block_ret (then_ret ?_))))
      refine bodyPost_ret (results_tmp rfl _ _ _) rfl ?_
      rw [mayB_no4 hy.out hu.out (Nat.succ_ne_zero _) hlt.out]
      exact does_ret (Mem.only (M := [_]) HM47.out [2] rfl) rfl rfl
     ·have hpr : Hid (j + 1 = 0 ∨ ∃ u, a.v[j + 1 - 1]? = some u ∧ cmpE u.1 y.1 < 0) := Lib.hid (.inr ⟨u, hu.out, by have h0 : decide (0 ≤ cmpE u.1 y.1) = false := h48; have := of_decide_eq_false h0; omega⟩)
      clear h48
      refine wp_skip (block_normal (then_normal (wQ ?_)))
      refine ⟨by kernel_rfl, ?_⟩
      refine ⟨a.v.length - ((j + 1) + 1), by omega, (j + 1) + 1, rfl, rfl, hk1, okT_step hok.out hy.out hoy.out hpr.out, (Mem.only (M := [_, _]) HM47.out [1, 1] rfl)⟩
  ·have hge : Hid (a.v.length ≤ k) := Lib.hid (by have : ¬ (k : Int) < ((a.v.length : Nat) : Int) := (by simpa using h15); omega)
   clear h15
   refine wp_exit ?_
   refine then_exit (then_exit (block_exit ?_))
   refine then_normal (wp_seq (wQ ?_))
   refine wp_ret (bodyPost_ret (results_tmp rfl _ _ _) rfl ?_)
   rw [okT_end hok.out hge.out hm1.out hm2.out]
   exact does_ret (Mem.only (M := [_]) HM14.out [1] rfl) rfl rfl
end
section
open Go Go.RowKit Go.BigFrame
theorem take_eq_step {a b : List Vl} {k : Nat} {x : Vl} (h : a.take k = b.take k) (ha : a[k]? = some x) (hb : b[k]? = some x) : a.take (k + 1) = b.take (k + 1) := by
 rw [List.take_add_one, List.take_add_one, h, ha, hb]
set_option maxHeartbeats 4000000 in
set_option maxRecDepth 100000 in
theorem bequal_d (R : At) (va vb : Value) (a b : List Vl) (ha : Reads elemV R va a) (hb : Reads elemV R vb b) (la : a.length ≤ 4398046510976) (_lb : b.length ≤ 4398046510976) : Does Tryz.prog 85 #[va, vb] [R] (.bool (decide (a = b))) [R] := by
 intro w H hp
 have HM0 := Lib.hid (mem_refl hp)
 clear hp
 obtain ⟨pa, ca, rfl⟩ := row_form (Mem.src HM0.out 0 rfl ha)
 obtain ⟨pb, cb, rfl⟩ := row_form (Mem.src HM0.out 0 rfl hb)
 go_enter Tryz.func85, Tryz.ntmps85
 refine wp_seq (wQ ?_)
 refine wp_seq (wp_seq ?_)
 by_cases hl0 : a.length = b.length
 ·have g1 : ((a.length : Int) != (b.length : Int)) = false := by rw [hl0]; exact bne_self_eq_false _
  have g1' : (a.length != b.length) = false := by rw [hl0]; exact bne_self_eq_false _
  have hlen := Lib.hid hl0
  clear hl0
  refine wQ ?_
  refine wp_cond_false rfl (wp_skip (then_normal (wp_seq (wp_seq (wQ ?_)))))
  refine wp_block ?_
  refine wp_loop_F [4, 5, 13, 14, 15, 16, 17, 18, 19, 20, 21, 22, 23, 24, 25] (fun n vs W' => ∃ k : Nat, n = a.length - k ∧ vs 13 = .int .i64 (k : Int) ∧ k ≤ a.length ∧ a.take k = b.take k ∧ Mem [R] H w W') (n0 := a.length) ?_ ?_
  ·exact ⟨0, rfl, rfl, Nat.zero_le _, rfl, (Mem.only (M := [_]) HM0.out [0] rfl)⟩
  rintro n vs W' ⟨k, rfl, e13, hk, htk', hm⟩
  simp only [putAll, List.map_cons, List.map_nil, Act.put, List.setIfInBounds_toArray, List.set_cons_succ, List.set_cons_zero]
  rw [e13]
  clear e13
  have htk := Lib.hid htk'
  clear htk'
  have HM1 := Lib.hid hm
  clear hm
  refine wp_seq (wQ ?_)
  refine wp_seq ?_
  refine wp_cond_split rfl (fun h2 => ?_) (fun h2 => ?_)
  ·have hk1 : k + 1 ≤ a.length := by have : (k : Int) < ((a.length : Nat) : Int) := (by simpa using h2); omega
   clear h2
   obtain ⟨x, hx'⟩ : ∃ y, a[k]? = some y := ⟨_, List.getElem?_eq_getElem (hk1)⟩
   have hx := Lib.hid hx'
   clear hx'
   obtain ⟨z, hz'⟩ : ∃ y, b[k]? = some y := ⟨_, List.getElem?_eq_getElem (by have := hlen.out; omega)⟩
   have hz := Lib.hid hz'
   clear hz'
   refine wp_skip (then_normal (wp_seq (wp_block (wp_seq (wQ ?_)))))
   refine wp_seq ?_
   by_cases hq : x = z
   ·have g2 : (!decide (x = z)) = false := by rw [decide_eq_true hq]; rfl
    have hxz := Lib.hid hq
    clear hq
    refine wp_region_M (fun k => k ∈ ([] : List Nat)) [(0, 1), (1, 1), (2, 1), (3, 1), (4, 1), (5, 1), (6, 1), (7, 1), (8, 1)] (by kernel_rfl) (by kernel_rfl) HM1.out ?_
    intro W3 hm4
    have HM5 := Lib.hid hm4
    clear hm4
    refine wT [0, 1] ?_
    refine wI elemV 2 (HM5.out.row 0 rfl (fun W H h => rowAt_src (ha W H h))) (hx.out) fun eb6 eo7 hc8 => ?_
    refine wL 3 [.int .i64 x.1.1, .int .i64 x.1.2, .string x.2] hc8 Tryz.underlying140 ?_
    refine wT [4, 5] ?_
    refine wI elemV 6 (HM5.out.row 0 rfl (fun W H h => rowAt_src (hb W H h))) (hz.out) fun eb9 eo10 hc11 => ?_
    refine wL 7 [.int .i64 z.1.1, .int .i64 z.1.2, .string z.2] hc11 Tryz.underlying140 ?_
    refine wR 8 (run_neVl (p := x) (q := z) g2 rfl rfl rfl) ?_
    refine wZ (wp_cond_false rfl (wp_skip (block_normal (then_normal (wQ ?_)))))
    refine ⟨by kernel_rfl, ?_⟩
    refine ⟨a.length - (k + 1), by omega, k + 1, rfl, rfl, hk1, take_eq_step htk.out hx.out (by rw [hz.out]; exact hxz.out.symm ▸ rfl), (Mem.only (M := [_]) HM5.out [0] rfl)⟩
   ·have g2 : (!decide (x = z)) = true := by rw [decide_eq_false hq]; rfl
    have hxz := Lib.hid hq
    clear hq
    refine wp_region_M (fun k => k ∈ ([] : List Nat)) [(0, 1), (1, 1), (2, 1), (3, 1), (4, 1), (5, 1), (6, 1), (7, 1), (8, 1)] (by kernel_rfl) (by kernel_rfl) HM1.out ?_
    intro W12 hm13
    have HM14 := Lib.hid hm13
    clear hm13
    refine wT [0, 1] ?_
    refine wI elemV 2 (HM14.out.row 0 rfl (fun W H h => rowAt_src (ha W H h))) (hx.out) fun eb15 eo16 hc17 => ?_
    refine wL 3 [.int .i64 x.1.1, .int .i64 x.1.2, .string x.2] hc17 Tryz.underlying140 ?_
    refine wT [4, 5] ?_
    refine wI elemV 6 (HM14.out.row 0 rfl (fun W H h => rowAt_src (hb W H h))) (hz.out) fun eb18 eo19 hc20 => ?_
    refine wL 7 [.int .i64 z.1.1, .int .i64 z.1.2, .string z.2] hc20 Tryz.underlying140 ?_
    refine wR 8 (run_neVl (p := x) (q := z) g2 rfl rfl rfl) ?_
    refine wZ (wp_cond_true rfl (wp_seq (wQ ?_)))
    refine wp_ret ?_
    refine block_ret (then_ret (then_ret (block_ret (then_ret ?_))))
    refine bodyPost_ret (results_tmp rfl _ _ _) rfl ?_
    rw [show decide (a = b) = false from decide_eq_false fun h => hxz.out (by have h1 := hx.out; rw [h, hz.out] at h1; exact (Option.some.inj h1).symm)]
    exact does_ret (Mem.only (M := [_]) HM14.out [0] rfl) rfl rfl
  ·have hge : Hid (a.length ≤ k) := Lib.hid (by have : ¬ (k : Int) < ((a.length : Nat) : Int) := (by simpa using h2); omega)
   clear h2
   refine wp_exit ?_
   refine then_exit (then_exit (block_exit ?_))
   refine then_normal (wp_seq (wQ ?_))
   refine wp_ret (bodyPost_ret (results_tmp rfl _ _ _) rfl ?_)
   rw [show decide (a = b) = true from decide_eq_true (by have h1 := htk.out; rw [List.take_of_length_le hge.out, List.take_of_length_le (by rw [← hlen.out]; exact hge.out)] at h1; exact h1)]
   exact does_ret (Mem.only (M := [_]) HM1.out [0] rfl) rfl rfl
 ·have g1 : ((a.length : Int) != (b.length : Int)) = true := bne_iff_ne.2 (by omega)
  have g1' : (a.length != b.length) = true := bne_iff_ne.2 hl0
  have hne := Lib.hid hl0
  clear hl0
  refine wQ ?_
  refine wp_cond_true rfl (wp_seq (wQ ?_))
  refine wp_ret (then_ret (bodyPost_ret (results_tmp rfl _ _ _) rfl ?_))
  rw [show decide (a = b) = false from decide_eq_false fun h => hne.out (by rw [h])]
  exact does_ret (Mem.only (M := [_]) HM0.out [0] rfl) rfl rfl
set_option maxHeartbeats 4000000 in
set_option maxRecDepth 100000 in
theorem bsame_d (R : At) (sa : Value) (a : Bg) (ha : Reads elemV R sa a.v) (la : a.v.length ≤ 4398046510976) (sb : Value) (b : Bg) (hb : Reads elemV R sb b.v) (lb : b.v.length ≤ 4398046510976) : Does Tryz.prog 44 #[bgV a.k sa, bgV b.k sb] [R] (.bool (sameB a b)) [R] := by
 intro w H hp
 have HM0 := Lib.hid (mem_refl hp)
 clear hp
 obtain ⟨pa, ca, rfl⟩ := row_form (Mem.src HM0.out 0 rfl ha)
 obtain ⟨pb, cb, rfl⟩ := row_form (Mem.src HM0.out 0 rfl hb)
 go_enter Tryz.func44, Tryz.ntmps44
 refine wp_seq (wN [(0, 3), (1, 3), (2, 1)] ?_)
 refine wBh 0 HM0 fun b3 W2 HM4 => ?_
 refine wBh 1 HM4 fun b7 W6 HM8 => ?_
 refine wT [2] ?_
 refine wZ (wp_seq ?_)
 obtain ⟨z, hz'⟩ := bool_letter (sameB a b)
 rw [hz']
 obtain ⟨q, hq'⟩ := bool_letter (decide (tab8 a.k = tab8 b.k))
 have hq := Lib.hid hq'
 clear hq'
 cases q
 ·have hc : Hid (z = false) := Lib.hid (by rw [← hz']; unfold sameB; rw [hq.out]; rfl)
  clear hz'
  refine wN [(0, 1), (1, 1), (2, 1), (3, 1), (4, 1), (5, 1), (6, 1), (7, 1), (8, 1), (9, 1), (10, 3), (11, 1), (12, 1)] (wT [0] ?_)
  refine wL 1 (vcC (a.k)) (HM8.out.part 1 rfl (bgC_vc)) Tryz.underlying38 ?_
  refine wT [2] ?_
  refine wL 3 (vcC (b.k)) (HM8.out.part 0 rfl (bgC_vc)) Tryz.underlying38 ?_
  refine wR 4 (run_eqV (hq.out) rfl rfl rfl) ?_
  refine wT [5, 6] ?_
  refine wK 7 ?_
  refine wT [8] ?_
  refine wK 9 ?_
  refine wK 10 ?_
  refine wT [11, 12] ?_
  refine wZ (wp_ret (bodyPost_ret (results_tmp rfl _ _ _) rfl ?_))
  rw [hc.out]
  exact does_ret (Mem.only (M := [_]) HM8.out [2] rfl) rfl rfl
 ·have hc : Hid (z = decide (a.v = b.v)) := Lib.hid (by rw [← hz']; unfold sameB; rw [hq.out]; rfl)
  clear hz'
  refine wN [(0, 1), (1, 1), (2, 1), (3, 1), (4, 1), (5, 1), (6, 1), (7, 1), (8, 1), (9, 1), (10, 3), (11, 1), (12, 1)] (wT [0] ?_)
  refine wL 1 (vcC (a.k)) (HM8.out.part 1 rfl (bgC_vc)) Tryz.underlying38 ?_
  refine wT [2] ?_
  refine wL 3 (vcC (b.k)) (HM8.out.part 0 rfl (bgC_vc)) Tryz.underlying38 ?_
  refine wR 4 (run_eqV (hq.out) rfl rfl rfl) ?_
  refine wT [5, 6] ?_
  refine wM 7 (.slice pa a.v.length ca) (HM8.out.part1 1 rfl bgC_sl) Tryz.underlying39 ?_
  refine wT [8] ?_
  refine wM 9 (.slice pb b.v.length cb) (HM8.out.part1 0 rfl bgC_sl) Tryz.underlying39 ?_
  refine wD2h 10 [_, _] [_, _, _] Tryz.call85 (bequal_d R _ _ a.v b.v ha hb la lb) HM8 [2] fun W10 HM11 => ?_
  refine wT [11, 12] ?_
  refine wZ (wp_ret (bodyPost_ret (results_tmp rfl _ _ _) rfl ?_))
  rw [hc.out]
  exact does_ret (Mem.only (M := [_]) HM11.out [0] rfl) rfl rfl
end
end Go.Proofs.YtcchkkdbagpgjaaGreat
