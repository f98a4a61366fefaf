/- RfL: of earlier stages. -/
import Derived.Test.YtcbnhakfijiioaaGreatRfB
import Derived.Test.YtcbnhakfijiioaaGreatPA
namespace Go.Proofs.YtcbnhakfijiioaaGreat
open Go Go.RowKit Go.BigFrame
set_option maxHeartbeats 4000000 in
set_option maxRecDepth 100000 in
theorem rsameB_d (R : At) (sa : Value) (a : Bg) (ha : Reads elemV R sa a.v) (la : a.v.length ≤ 4398046510976) (sb : Value) (b : Bg) (hb : Reads elemV R sb b.v) (_lb : b.v.length ≤ 4398046510976) : Does Tryz.prog 161 #[bgV a.k sa, bgV b.k sb] [R] (.bool (sameB a b)) [R] := by
 intro w H hp
 have HM0 := Lib.hid (mem_refl hp)
 clear hp
 obtain ⟨pa, ca, rfl⟩ := row_form (Mem.src HM0.out 0 rfl ha)
 obtain ⟨pb, cb, rfl⟩ := row_form (Mem.src HM0.out 0 rfl hb)
 go_enter Tryz.func161, Tryz.ntmps161
 refine wp_seq (wN [(0, 3), (1, 3), (2, 1)] ?_)
 refine wBh 0 HM0 fun b3 W2 HM4 => ?_
 refine wBh 1 HM4 fun b7 W6 HM8 => ?_
 refine wT [2] ?_
 refine wZ (wp_seq (wp_seq ?_))
 rcases (show decide (tab8 a.k = tab8 b.k) = false ∨ (decide (tab8 a.k = tab8 b.k) = true ∧ ¬ a.v.length = b.v.length) ∨ (decide (tab8 a.k = tab8 b.k) = true ∧ a.v.length = b.v.length) from by cases decide (tab8 a.k = tab8 b.k) <;> by_cases h : a.v.length = b.v.length <;> simp [h]) with hq | ⟨hq, hl0⟩ | ⟨hq, hl0⟩
 ·replace hq := Lib.hid hq
  refine wN [(0, 1), (1, 1), (2, 1), (3, 1), (4, 1), (5, 1), (6, 1), (7, 1), (8, 1), (9, 1), (10, 1), (11, 1), (12, 1), (13, 1)] (wT [0] ?_)
  refine wL 1 (vcC (a.k)) (HM8.out.part 1 rfl (bgC_vc)) Tryz.underlying40 ?_
  refine wT [2] ?_
  refine wL 3 (vcC (b.k)) (HM8.out.part 0 rfl (bgC_vc)) Tryz.underlying40 ?_
  refine wR 4 (run_neV (f := a.k) (g := b.k) (b := true) (by rw [hq.out]; rfl) rfl rfl rfl) ?_
  refine wT [5, 6] ?_
  refine wK 7 ?_
  refine wT [8, 9] ?_
  refine wK 10 ?_
  refine wT [11, 12, 13] ?_
  refine wZ (wp_cond_true rfl (wp_seq (wQ ?_)))
  refine wp_ret (then_ret (bodyPost_ret (results_tmp rfl _ _ _) rfl ?_))
  rw [show sameB a b = false from by unfold sameB; rw [hq.out]; rfl]
  exact does_ret (Mem.only (M := [_]) HM8.out [2] rfl) rfl rfl
 ·replace hq := Lib.hid hq
  have g1 : ((a.v.length : Int) != (b.v.length : Int)) = true := bne_iff_ne.2 (by omega)
  have g1' : (a.v.length != b.v.length) = true := bne_iff_ne.2 hl0
  have hne := Lib.hid hl0
  clear hl0
  refine wN [(0, 1), (1, 1), (2, 1), (3, 1), (4, 1), (5, 1), (6, 1), (7, 1), (8, 1), (9, 1), (10, 1), (11, 1), (12, 1), (13, 1)] (wT [0] ?_)
  refine wL 1 (vcC (a.k)) (HM8.out.part 1 rfl (bgC_vc)) Tryz.underlying40 ?_
  refine wT [2] ?_
  refine wL 3 (vcC (b.k)) (HM8.out.part 0 rfl (bgC_vc)) Tryz.underlying40 ?_
  refine wR 4 (run_neV (f := a.k) (g := b.k) (b := false) (by rw [hq.out]; rfl) rfl rfl rfl) ?_
  refine wT [5, 6] ?_
  refine wM 7 (.slice pa a.v.length ca) (HM8.out.part1 1 rfl bgC_sl) Tryz.underlying41 ?_
  refine wT [8, 9] ?_
  refine wM 10 (.slice pb b.v.length cb) (HM8.out.part1 0 rfl bgC_sl) Tryz.underlying41 ?_
  refine wT [11, 12, 13] ?_
  refine wZ (wp_cond_true rfl (wp_seq (wQ ?_)))
  refine wp_ret (then_ret (bodyPost_ret (results_tmp rfl _ _ _) rfl ?_))
  rw [show sameB a b = false from by unfold sameB; rw [show decide (a.v = b.v) = false from decide_eq_false fun h => hne.out (by rw [h]), Bool.and_false]]
  exact does_ret (Mem.only (M := [_]) HM8.out [2] rfl) rfl rfl
 ·replace hq := Lib.hid hq
  have g1 : ((a.v.length : Int) != (b.v.length : Int)) = false := by rw [hl0]; exact bne_self_eq_false _
  have g1' : (a.v.length != b.v.length) = false := by rw [hl0]; exact bne_self_eq_false _
  have hlen := Lib.hid hl0
  clear hl0
  refine wN [(0, 1), (1, 1), (2, 1), (3, 1), (4, 1), (5, 1), (6, 1), (7, 1), (8, 1), (9, 1), (10, 1), (11, 1), (12, 1), (13, 1)] (wT [0] ?_)
  refine wL 1 (vcC (a.k)) (HM8.out.part 1 rfl (bgC_vc)) Tryz.underlying40 ?_
  refine wT [2] ?_
  refine wL 3 (vcC (b.k)) (HM8.out.part 0 rfl (bgC_vc)) Tryz.underlying40 ?_
  refine wR 4 (run_neV (f := a.k) (g := b.k) (b := false) (by rw [hq.out]; rfl) rfl rfl rfl) ?_
  refine wT [5, 6] ?_
  refine wM 7 (.slice pa a.v.length ca) (HM8.out.part1 1 rfl bgC_sl) Tryz.underlying41 ?_
  refine wT [8, 9] ?_
  refine wM 10 (.slice pb b.v.length cb) (HM8.out.part1 0 rfl bgC_sl) Tryz.underlying41 ?_
  refine wT [11, 12, 13] ?_
  refine wZ (wp_cond_false rfl (wp_skip (then_normal (wp_seq (wp_seq (wN [(0, 1), (1, 1), (2, 1), (3, 1)] (wT [0] ?_)))))))
  refine wM 1 (.slice pa a.v.length ca) (HM8.out.part1 1 rfl bgC_sl) Tryz.underlying41 ?_
  refine wT [2, 3] ?_
  refine wZ (wp_block ?_)
  refine wp_loop_F [4, 5, 23, 24, 25, 26, 27, 28, 29, 30, 31, 32, 33, 34, 35, 36, 37] (fun n vs W' => ∃ k : Nat, n = a.v.length - k ∧ vs 23 = .int .i64 (k : Int) ∧ k ≤ a.v.length ∧ a.v.take k = b.v.take k ∧ Mem [boxT b3 (.cells (bgC a.k (.slice pa a.v.length ca)).toArray 43 (0, 0)), boxT b7 (.cells (bgC b.k (.slice pb b.v.length cb)).toArray 43 (0, 0)), R] H w W') (n0 := a.v.length) ?_ ?_
  ·exact ⟨0, rfl, rfl, Nat.zero_le _, rfl, (Mem.only (M := [_, _, _]) HM8.out [1, 0, 0] rfl)⟩
  rintro n vs W' ⟨k, rfl, e23, hk, htk', hm⟩
  simp only [putAll, List.map_cons, List.map_nil, Act.put, List.setIfInBounds_toArray, List.set_cons_succ, List.set_cons_zero]
  rw [e23]
  clear e23
  have htk := Lib.hid htk'
  clear htk'
  have HM9 := Lib.hid hm
  clear hm
  refine wp_seq (wQ ?_)
  refine wp_seq ?_
  refine wp_cond_split rfl (fun h10 => ?_) (fun h10 => ?_)
  ·have hk1 : k + 1 ≤ a.v.length := by have : (k : Int) < ((a.v.length : Nat) : Int) := (by simpa using h10); omega
   clear h10
   obtain ⟨x, hx'⟩ : ∃ y, a.v[k]? = some y := ⟨_, List.getElem?_eq_getElem (hk1)⟩
   have hx := Lib.hid hx'
   clear hx'
   obtain ⟨z, hz'⟩ : ∃ y, b.v[k]? = some y := ⟨_, List.getElem?_eq_getElem (by have := hlen.out; omega)⟩
   have hz := Lib.hid hz'
   clear hz'
   refine wp_skip (then_normal (wp_seq (wp_block (wp_seq (wQ ?_)))))
   refine wp_seq ?_
   by_cases hq2 : x = z
   ·have g2 : (!decide (x = z)) = false := by rw [decide_eq_true hq2]; rfl
    have hxz := Lib.hid hq2
    clear hq2
    refine wp_region_M (fun k => k ∈ ([b3, b7] : List Nat)) [(0, 1), (1, 1), (2, 1), (3, 1), (4, 1), (5, 1), (6, 1), (7, 1), (8, 1), (9, 1), (10, 1)] (by kernel_rfl) (by kernel_rfl) HM9.out ?_
    intro W11 hm12
    have HM13 := Lib.hid hm12
    clear hm12
    refine wT [0] ?_
    refine wM 1 (.slice pa a.v.length ca) (HM13.out.part1 0 rfl bgC_sl) Tryz.underlying41 ?_
    refine wT [2] ?_
    refine wI elemV 3 (HM13.out.row 2 rfl (fun W H h => rowAt_src (ha W H h))) (hx.out) fun eb14 eo15 hc16 => ?_
    refine wL 4 [.int .i64 x.1.1, .int .i64 x.1.2, .string x.2] hc16 Tryz.underlying104 ?_
    refine wT [5] ?_
    refine wM 6 (.slice pb b.v.length cb) (HM13.out.part1 1 rfl bgC_sl) Tryz.underlying41 ?_
    refine wT [7] ?_
    refine wI elemV 8 (HM13.out.row 2 rfl (fun W H h => rowAt_src (hb W H h))) (hz.out) fun eb17 eo18 hc19 => ?_
    refine wL 9 [.int .i64 z.1.1, .int .i64 z.1.2, .string z.2] hc19 Tryz.underlying104 ?_
    refine wR 10 (run_neVl (p := x) (q := z) g2 rfl rfl rfl) ?_
    refine wZ (wp_cond_false rfl (wp_skip (block_normal (then_normal (wQ ?_)))))
    refine ⟨by kernel_rfl, ?_⟩
    refine ⟨a.v.length - (k + 1), by omega, k + 1, rfl, rfl, hk1, take_eq_step htk.out hx.out (by rw [hz.out]; exact hxz.out.symm ▸ rfl), (Mem.only (M := [_, _, _]) HM13.out [0, 0, 0] rfl)⟩
   ·have g2 : (!decide (x = z)) = true := by rw [decide_eq_false hq2]; rfl
    have hxz := Lib.hid hq2
    clear hq2
    refine wp_region_M (fun k => k ∈ ([b3, b7] : List Nat)) [(0, 1), (1, 1), (2, 1), (3, 1), (4, 1), (5, 1), (6, 1), (7, 1), (8, 1), (9, 1), (10, 1)] (by kernel_rfl) (by kernel_rfl) HM9.out ?_
    intro W20 hm21
    have HM22 := Lib.hid hm21
    clear hm21
    refine wT [0] ?_
    refine wM 1 (.slice pa a.v.length ca) (HM22.out.part1 0 rfl bgC_sl) Tryz.underlying41 ?_
    refine wT [2] ?_
    refine wI elemV 3 (HM22.out.row 2 rfl (fun W H h => rowAt_src (ha W H h))) (hx.out) fun eb23 eo24 hc25 => ?_
    refine wL 4 [.int .i64 x.1.1, .int .i64 x.1.2, .string x.2] hc25 Tryz.underlying104 ?_
    refine wT [5] ?_
    refine wM 6 (.slice pb b.v.length cb) (HM22.out.part1 1 rfl bgC_sl) Tryz.underlying41 ?_
    refine wT [7] ?_
    refine wI elemV 8 (HM22.out.row 2 rfl (fun W H h => rowAt_src (hb W H h))) (hz.out) fun eb26 eo27 hc28 => ?_
    refine wL 9 [.int .i64 z.1.1, .int .i64 z.1.2, .string z.2] hc28 Tryz.underlying104 ?_
    refine wR 10 (run_neVl (p := x) (q := z) g2 rfl rfl rfl) ?_
    refine wZ (wp_cond_true rfl (wp_seq (wQ ?_)))
    refine wp_ret ?_
    refine block_ret (then_ret (then_ret (block_ret (then_ret ?_))))
    refine bodyPost_ret (results_tmp rfl _ _ _) rfl ?_
    rw [show sameB a b = false from by unfold sameB; rw [show decide (a.v = b.v) = false from decide_eq_false fun h => hxz.out (by have h1 := hx.out; rw [h, hz.out] at h1; exact (Option.some.inj h1).symm), Bool.and_false]]
    exact does_ret (Mem.only (M := [_]) HM22.out [2] rfl) rfl rfl
  ·have hge : Hid (a.v.length ≤ k) := Lib.hid (by have : ¬ (k : Int) < ((a.v.length : Nat) : Int) := (by simpa using h10); omega)
   clear h10
   refine wp_exit ?_
   refine then_exit (then_exit (block_exit ?_))
   refine then_normal (wp_seq (wQ ?_))
   refine wp_ret (bodyPost_ret (results_tmp rfl _ _ _) rfl ?_)
   rw [show sameB a b = true from by unfold sameB; rw [hq.out, show decide (a.v = b.v) = true from decide_eq_true (by have h1 := htk.out; rw [List.take_of_length_le hge.out, List.take_of_length_le (by rw [← hlen.out]; exact hge.out)] at h1; exact h1)]; rfl]
   exact does_ret (Mem.only (M := [_]) HM9.out [2] rfl) rfl rfl
set_option maxHeartbeats 4000000 in
set_option maxRecDepth 100000 in
theorem rsameD_d (R : At) (va ra : Value) (a : Dd) (ha : DdR R a va ra) (vb rb : Value) (b : Dd) (hb : DdR R b vb rb) : Does Tryz.prog 146 #[ddV a va ra, ddV b vb rb] [R] (.bool (sameD a b)) [R] := by
 intro w H hp
 have HM0 := Lib.hid (mem_refl hp)
 clear hp
 obtain ⟨pva, cva, rfl⟩ := row_form (Mem.src HM0.out 0 rfl ha.v)
 obtain ⟨pra, cra, rfl⟩ := row_form (Mem.src HM0.out 0 rfl ha.r)
 obtain ⟨pvb, cvb, rfl⟩ := row_form (Mem.src HM0.out 0 rfl hb.v)
 obtain ⟨prb, crb, rfl⟩ := row_form (Mem.src HM0.out 0 rfl hb.r)
 go_enter Tryz.func146, Tryz.ntmps146
 refine wp_seq (wN [(0, 3), (1, 3), (2, 1)] ?_)
 refine wBh 0 HM0 fun b3 W2 HM4 => ?_
 refine wBh 1 HM4 fun b7 W6 HM8 => ?_
 refine wT [2] ?_
 refine wZ (wp_seq ?_)
 rcases same_ways a b with h1 | ⟨h1, h2⟩ | ⟨h1, h2, h3⟩ | ⟨h1, h2, h3, h4⟩ | ⟨h1, h2, h3, h4, h5⟩ | ⟨h1, h2, h3, h4, h5⟩
 ·have hc := Lib.hid (sameD_kind h1)
  have g1 : (a.kind == b.kind) = false := beq_eq_false_iff_ne.2 h1
  replace h1 := Lib.hid h1
  refine wN [(0, 1), (1, 1), (2, 1), (3, 1), (4, 1), (5, 1), (6, 1), (7, 1), (8, 1), (9, 1), (10, 1), (11, 1), (12, 1), (13, 1), (14, 1), (15, 1), (16, 1), (17, 1), (18, 1), (19, 1), (20, 1), (21, 1), (22, 1), (23, 1), (24, 1), (25, 1), (26, 1), (27, 1), (28, 1), (29, 1), (30, 1), (31, 3), (32, 1), (33, 1), (34, 1), (35, 1), (36, 1), (37, 1), (38, 3), (39, 1), (40, 1)] (wT [0] ?_)
  refine wM 1 (.int .i64 (a).kind) (HM8.out.part1 1 rfl rfl) Tryz.underlying3 ?_
  refine wT [2] ?_
  refine wM 3 (.int .i64 (b).kind) (HM8.out.part1 0 rfl rfl) Tryz.underlying3 ?_
  refine wT [4, 5, 6] ?_
  refine wK 7 ?_
  refine wT [8] ?_
  refine wK 9 ?_
  refine wT [10, 11, 12, 13] ?_
  refine wK 14 ?_
  refine wT [15] ?_
  refine wK 16 ?_
  refine wK 17 ?_
  refine wT [18, 19, 20] ?_
  refine wK 21 ?_
  refine wT [22] ?_
  refine wK 23 ?_
  refine wT [24, 25, 26, 27] ?_
  refine wK 28 ?_
  refine wT [29] ?_
  refine wK 30 ?_
  refine wK 31 ?_
  refine wT [32, 33, 34] ?_
  refine wK 35 ?_
  refine wT [36] ?_
  refine wK 37 ?_
  refine wK 38 ?_
  refine wT [39, 40] ?_
  refine wZ (wp_ret (bodyPost_ret (results_tmp rfl _ _ _) rfl ?_))
  rw [hc.out]
  exact does_ret (Mem.only (M := [_]) HM8.out [2] rfl) rfl rfl
 ·have hc := Lib.hid (sameD_n h2)
  have g1 : (a.kind == b.kind) = true := beq_iff_eq.2 h1
  have g2 : (a.n == b.n) = false := beq_eq_false_iff_ne.2 h2
  replace h1 := Lib.hid h1
  replace h2 := Lib.hid h2
  refine wN [(0, 1), (1, 1), (2, 1), (3, 1), (4, 1), (5, 1), (6, 1), (7, 1), (8, 1), (9, 1), (10, 1), (11, 1), (12, 1), (13, 1), (14, 1), (15, 1), (16, 1), (17, 1), (18, 1), (19, 1), (20, 1), (21, 1), (22, 1), (23, 1), (24, 1), (25, 1), (26, 1), (27, 1), (28, 1), (29, 1), (30, 1), (31, 3), (32, 1), (33, 1), (34, 1), (35, 1), (36, 1), (37, 1), (38, 3), (39, 1), (40, 1)] (wT [0] ?_)
  refine wM 1 (.int .i64 (a).kind) (HM8.out.part1 1 rfl rfl) Tryz.underlying3 ?_
  refine wT [2] ?_
  refine wM 3 (.int .i64 (b).kind) (HM8.out.part1 0 rfl rfl) Tryz.underlying3 ?_
  refine wT [4, 5, 6] ?_
  refine wM 7 (.int .i64 (a).n) (HM8.out.part1 1 rfl rfl) Tryz.underlying3 ?_
  refine wT [8] ?_
  refine wM 9 (.int .i64 (b).n) (HM8.out.part1 0 rfl rfl) Tryz.underlying3 ?_
  refine wT [10, 11, 12, 13] ?_
  refine wK 14 ?_
  refine wT [15] ?_
  refine wK 16 ?_
  refine wK 17 ?_
  refine wT [18, 19, 20] ?_
  refine wK 21 ?_
  refine wT [22] ?_
  refine wK 23 ?_
  refine wT [24, 25, 26, 27] ?_
  refine wK 28 ?_
  refine wT [29] ?_
  refine wK 30 ?_
  refine wK 31 ?_
  refine wT [32, 33, 34] ?_
  refine wK 35 ?_
  refine wT [36] ?_
  refine wK 37 ?_
  refine wK 38 ?_
  refine wT [39, 40] ?_
  refine wZ (wp_ret (bodyPost_ret (results_tmp rfl _ _ _) rfl ?_))
  rw [hc.out]
  exact does_ret (Mem.only (M := [_]) HM8.out [2] rfl) rfl rfl
 ·have hc := Lib.hid (sameD_key h3)
  have g1 : (a.kind == b.kind) = true := beq_iff_eq.2 h1
  have g2 : (a.n == b.n) = true := beq_iff_eq.2 h2
  have g3 := decide_eq_false h3
  replace h1 := Lib.hid h1
  replace h2 := Lib.hid h2
  replace h3 := Lib.hid h3
  refine wN [(0, 1), (1, 1), (2, 1), (3, 1), (4, 1), (5, 1), (6, 1), (7, 1), (8, 1), (9, 1), (10, 1), (11, 1), (12, 1), (13, 1), (14, 1), (15, 1), (16, 1), (17, 1), (18, 1), (19, 1), (20, 1), (21, 1), (22, 1), (23, 1), (24, 1), (25, 1), (26, 1), (27, 1), (28, 1), (29, 1), (30, 1), (31, 3), (32, 1), (33, 1), (34, 1), (35, 1), (36, 1), (37, 1), (38, 3), (39, 1), (40, 1)] (wT [0] ?_)
  refine wM 1 (.int .i64 (a).kind) (HM8.out.part1 1 rfl rfl) Tryz.underlying3 ?_
  refine wT [2] ?_
  refine wM 3 (.int .i64 (b).kind) (HM8.out.part1 0 rfl rfl) Tryz.underlying3 ?_
  refine wT [4, 5, 6] ?_
  refine wM 7 (.int .i64 (a).n) (HM8.out.part1 1 rfl rfl) Tryz.underlying3 ?_
  refine wT [8] ?_
  refine wM 9 (.int .i64 (b).n) (HM8.out.part1 0 rfl rfl) Tryz.underlying3 ?_
  refine wT [10, 11, 12, 13] ?_
  refine wM 14 (.string (a).key) (HM8.out.part1 1 rfl rfl) Tryz.underlying9 ?_
  refine wT [15] ?_
  refine wM 16 (.string (b).key) (HM8.out.part1 0 rfl rfl) Tryz.underlying9 ?_
  refine wR 17 (run_eqS g3 rfl rfl rfl) ?_
  refine wT [18, 19, 20] ?_
  refine wK 21 ?_
  refine wT [22] ?_
  refine wK 23 ?_
  refine wT [24, 25, 26, 27] ?_
  refine wK 28 ?_
  refine wT [29] ?_
  refine wK 30 ?_
  refine wK 31 ?_
  refine wT [32, 33, 34] ?_
  refine wK 35 ?_
  refine wT [36] ?_
  refine wK 37 ?_
  refine wK 38 ?_
  refine wT [39, 40] ?_
  refine wZ (wp_ret (bodyPost_ret (results_tmp rfl _ _ _) rfl ?_))
  rw [hc.out]
  exact does_ret (Mem.only (M := [_]) HM8.out [2] rfl) rfl rfl
 ·have hc := Lib.hid (sameD_part h4)
  have g1 : (a.kind == b.kind) = true := beq_iff_eq.2 h1
  have g2 : (a.n == b.n) = true := beq_iff_eq.2 h2
  have g3 := decide_eq_true h3
  have g4 : (a.part == b.part) = false := beq_eq_false_iff_ne.2 h4
  replace h1 := Lib.hid h1
  replace h2 := Lib.hid h2
  replace h3 := Lib.hid h3
  replace h4 := Lib.hid h4
  refine wN [(0, 1), (1, 1), (2, 1), (3, 1), (4, 1), (5, 1), (6, 1), (7, 1), (8, 1), (9, 1), (10, 1), (11, 1), (12, 1), (13, 1), (14, 1), (15, 1), (16, 1), (17, 1), (18, 1), (19, 1), (20, 1), (21, 1), (22, 1), (23, 1), (24, 1), (25, 1), (26, 1), (27, 1), (28, 1), (29, 1), (30, 1), (31, 3), (32, 1), (33, 1), (34, 1), (35, 1), (36, 1), (37, 1), (38, 3), (39, 1), (40, 1)] (wT [0] ?_)
  refine wM 1 (.int .i64 (a).kind) (HM8.out.part1 1 rfl rfl) Tryz.underlying3 ?_
  refine wT [2] ?_
  refine wM 3 (.int .i64 (b).kind) (HM8.out.part1 0 rfl rfl) Tryz.underlying3 ?_
  refine wT [4, 5, 6] ?_
  refine wM 7 (.int .i64 (a).n) (HM8.out.part1 1 rfl rfl) Tryz.underlying3 ?_
  refine wT [8] ?_
  refine wM 9 (.int .i64 (b).n) (HM8.out.part1 0 rfl rfl) Tryz.underlying3 ?_
  refine wT [10, 11, 12, 13] ?_
  refine wM 14 (.string (a).key) (HM8.out.part1 1 rfl rfl) Tryz.underlying9 ?_
  refine wT [15] ?_
  refine wM 16 (.string (b).key) (HM8.out.part1 0 rfl rfl) Tryz.underlying9 ?_
  refine wR 17 (run_eqS g3 rfl rfl rfl) ?_
  refine wT [18, 19, 20] ?_
  refine wM 21 (.int .i64 (a).part) (HM8.out.part1 1 rfl ddC_part) Tryz.underlying3 ?_
  refine wT [22] ?_
  refine wM 23 (.int .i64 (b).part) (HM8.out.part1 0 rfl ddC_part) Tryz.underlying3 ?_
  refine wT [24, 25, 26, 27] ?_
  refine wK 28 ?_
  refine wT [29] ?_
  refine wK 30 ?_
  refine wK 31 ?_
  refine wT [32, 33, 34] ?_
  refine wK 35 ?_
  refine wT [36] ?_
  refine wK 37 ?_
  refine wK 38 ?_
  refine wT [39, 40] ?_
  refine wZ (wp_ret (bodyPost_ret (results_tmp rfl _ _ _) rfl ?_))
  rw [hc.out]
  exact does_ret (Mem.only (M := [_]) HM8.out [2] rfl) rfl rfl
 ·have hc := Lib.hid (sameD_bag h5)
  have g1 : (a.kind == b.kind) = true := beq_iff_eq.2 h1
  have g2 : (a.n == b.n) = true := beq_iff_eq.2 h2
  have g3 := decide_eq_true h3
  have g4 : (a.part == b.part) = true := beq_iff_eq.2 h4
  replace h1 := Lib.hid h1
  replace h2 := Lib.hid h2
  replace h3 := Lib.hid h3
  replace h4 := Lib.hid h4
  replace h5 := Lib.hid h5
  refine wN [(0, 1), (1, 1), (2, 1), (3, 1), (4, 1), (5, 1), (6, 1), (7, 1), (8, 1), (9, 1), (10, 1), (11, 1), (12, 1), (13, 1), (14, 1), (15, 1), (16, 1), (17, 1), (18, 1), (19, 1), (20, 1), (21, 1), (22, 1), (23, 1), (24, 1), (25, 1), (26, 1), (27, 1), (28, 1), (29, 1), (30, 1), (31, 3), (32, 1), (33, 1), (34, 1), (35, 1), (36, 1), (37, 1), (38, 3), (39, 1), (40, 1)] (wT [0] ?_)
  refine wM 1 (.int .i64 (a).kind) (HM8.out.part1 1 rfl rfl) Tryz.underlying3 ?_
  refine wT [2] ?_
  refine wM 3 (.int .i64 (b).kind) (HM8.out.part1 0 rfl rfl) Tryz.underlying3 ?_
  refine wT [4, 5, 6] ?_
  refine wM 7 (.int .i64 (a).n) (HM8.out.part1 1 rfl rfl) Tryz.underlying3 ?_
  refine wT [8] ?_
  refine wM 9 (.int .i64 (b).n) (HM8.out.part1 0 rfl rfl) Tryz.underlying3 ?_
  refine wT [10, 11, 12, 13] ?_
  refine wM 14 (.string (a).key) (HM8.out.part1 1 rfl rfl) Tryz.underlying9 ?_
  refine wT [15] ?_
  refine wM 16 (.string (b).key) (HM8.out.part1 0 rfl rfl) Tryz.underlying9 ?_
  refine wR 17 (run_eqS g3 rfl rfl rfl) ?_
  refine wT [18, 19, 20] ?_
  refine wM 21 (.int .i64 (a).part) (HM8.out.part1 1 rfl ddC_part) Tryz.underlying3 ?_
  refine wT [22] ?_
  refine wM 23 (.int .i64 (b).part) (HM8.out.part1 0 rfl ddC_part) Tryz.underlying3 ?_
  refine wT [24, 25, 26, 27] ?_
  refine wL 28 (bgC (a).b.k (.slice pva a.b.v.length cva)) (HM8.out.part 1 rfl (ddC_bag)) Tryz.underlying43 ?_
  refine wT [29] ?_
  refine wL 30 (bgC (b).b.k (.slice pvb b.b.v.length cvb)) (HM8.out.part 0 rfl (ddC_bag)) Tryz.underlying43 ?_
  refine wD2 31 [_, _] [_, _, _] Tryz.call161 (rsameB_d R _ a.b ha.v ha.lv _ b.b hb.v hb.lv) HM8 [2] fun W10 hm9 => ?_
  rw [h5.out]
  have HM11 := Lib.hid hm9
  clear hm9
  refine wT [32, 33, 34] ?_
  refine wK 35 ?_
  refine wT [36] ?_
  refine wK 37 ?_
  refine wK 38 ?_
  refine wT [39, 40] ?_
  refine wZ (wp_ret (bodyPost_ret (results_tmp rfl _ _ _) rfl ?_))
  rw [hc.out]
  exact does_ret (Mem.only (M := [_]) HM11.out [0] rfl) rfl rfl
 ·have hc := Lib.hid (sameD_all h1 h2 h3 h4 h5)
  have g1 : (a.kind == b.kind) = true := beq_iff_eq.2 h1
  have g2 : (a.n == b.n) = true := beq_iff_eq.2 h2
  have g3 := decide_eq_true h3
  have g4 : (a.part == b.part) = true := beq_iff_eq.2 h4
  replace h1 := Lib.hid h1
  replace h2 := Lib.hid h2
  replace h3 := Lib.hid h3
  replace h4 := Lib.hid h4
  replace h5 := Lib.hid h5
  refine wN [(0, 1), (1, 1), (2, 1), (3, 1), (4, 1), (5, 1), (6, 1), (7, 1), (8, 1), (9, 1), (10, 1), (11, 1), (12, 1), (13, 1), (14, 1), (15, 1), (16, 1), (17, 1), (18, 1), (19, 1), (20, 1), (21, 1), (22, 1), (23, 1), (24, 1), (25, 1), (26, 1), (27, 1), (28, 1), (29, 1), (30, 1), (31, 3), (32, 1), (33, 1), (34, 1), (35, 1), (36, 1), (37, 1), (38, 3), (39, 1), (40, 1)] (wT [0] ?_)
  refine wM 1 (.int .i64 (a).kind) (HM8.out.part1 1 rfl rfl) Tryz.underlying3 ?_
  refine wT [2] ?_
  refine wM 3 (.int .i64 (b).kind) (HM8.out.part1 0 rfl rfl) Tryz.underlying3 ?_
  refine wT [4, 5, 6] ?_
  refine wM 7 (.int .i64 (a).n) (HM8.out.part1 1 rfl rfl) Tryz.underlying3 ?_
  refine wT [8] ?_
  refine wM 9 (.int .i64 (b).n) (HM8.out.part1 0 rfl rfl) Tryz.underlying3 ?_
  refine wT [10, 11, 12, 13] ?_
  refine wM 14 (.string (a).key) (HM8.out.part1 1 rfl rfl) Tryz.underlying9 ?_
  refine wT [15] ?_
  refine wM 16 (.string (b).key) (HM8.out.part1 0 rfl rfl) Tryz.underlying9 ?_
  refine wR 17 (run_eqS g3 rfl rfl rfl) ?_
  refine wT [18, 19, 20] ?_
  refine wM 21 (.int .i64 (a).part) (HM8.out.part1 1 rfl ddC_part) Tryz.underlying3 ?_
  refine wT [22] ?_
  refine wM 23 (.int .i64 (b).part) (HM8.out.part1 0 rfl ddC_part) Tryz.underlying3 ?_
  refine wT [24, 25, 26, 27] ?_
  refine wL 28 (bgC (a).b.k (.slice pva a.b.v.length cva)) (HM8.out.part 1 rfl (ddC_bag)) Tryz.underlying43 ?_
  refine wT [29] ?_
  refine wL 30 (bgC (b).b.k (.slice pvb b.b.v.length cvb)) (HM8.out.part 0 rfl (ddC_bag)) Tryz.underlying43 ?_
  refine wD2 31 [_, _] [_, _, _] Tryz.call161 (rsameB_d R _ a.b ha.v ha.lv _ b.b hb.v hb.lv) HM8 [2] fun W13 hm12 => ?_
  rw [h5.out]
  have HM14 := Lib.hid hm12
  clear hm12
  refine wT [32, 33, 34] ?_
  refine wL 35 (rgC (a).r (.slice pra a.r.p.2.2.length cra)) (HM14.out.part 2 rfl (ddC_ring)) Tryz.underlying78 ?_
  refine wT [36] ?_
  refine wL 37 (rgC (b).r (.slice prb b.r.p.2.2.length crb)) (HM14.out.part 1 rfl (ddC_ring)) Tryz.underlying78 ?_
  refine wD2h 38 [_, _] [_, _, _] Tryz.call162 (rsame_d R _ a.r ha.r ha.lr _ b.r hb.r hb.lr) HM14 [0] fun W16 HM17 => ?_
  refine wT [39, 40] ?_
  refine wZ (wp_ret (bodyPost_ret (results_tmp rfl _ _ _) rfl ?_))
  rw [hc.out]
  exact does_ret (Mem.only (M := [_]) HM17.out [0] rfl) rfl rfl
set_option maxHeartbeats 4000000 in
set_option maxRecDepth 100000 in
theorem rnone_d (R : At) (va ra : Value) (a : Dd) (ha : DdR R a va ra) : Does Tryz.prog 121 #[ddV a va ra] [R] (.bool (noneD a)) [R] := by
 intro w H hp
 have HM0 := Lib.hid (mem_refl hp)
 clear hp
 obtain ⟨pva, cva, rfl⟩ := row_form (Mem.src HM0.out 0 rfl ha.v)
 obtain ⟨pra, cra, rfl⟩ := row_form (Mem.src HM0.out 0 rfl ha.r)
 go_enter Tryz.func121, Tryz.ntmps121
 refine wp_seq (wN [(0, 3), (1, 1)] ?_)
 refine wBh 0 HM0 fun b3 W2 HM4 => ?_
 refine wT [1] ?_
 refine wZ (wp_seq (wN [(0, 1), (1, 1), (2, 3), (3, 1)] ?_))
 refine wL 0 (ddC (a) (.slice pva a.b.v.length cva) (.slice pra a.r.p.2.2.length cra)) (HM4.out.part 0 rfl (ddC_all)) Tryz.underlying85 ?_
 refine wR 1 (v := ddV noD (.slice none 0 0) (.slice none 0 0)) (by kernel_rfl) ?_
 refine wD2h 2 [_] [_, _] Tryz.call146 (rsameD_d R _ _ a ha _ _ noD (ddr_no R)) HM4 [1] fun W6 HM7 => ?_
 refine wT [3] ?_
 refine wZ (wp_ret (bodyPost_ret (results_tmp rfl _ _ _) rfl ?_))
 exact does_ret (Mem.only (M := [_]) HM7.out [0] rfl) rfl rfl
set_option maxHeartbeats 4000000 in
set_option maxRecDepth 100000 in
theorem rmayD_d (R : At) (va ra : Value) (a : Dd) (ha : DdR R a va ra) : Does Tryz.prog 106 #[ddV a va ra] [R] (.bool (mayD a)) [R] := by
 intro w H hp
 have HM0 := Lib.hid (mem_refl hp)
 clear hp
 obtain ⟨pva, cva, rfl⟩ := row_form (Mem.src HM0.out 0 rfl ha.v)
 obtain ⟨pra, cra, rfl⟩ := row_form (Mem.src HM0.out 0 rfl ha.r)
 go_enter Tryz.func106, Tryz.ntmps106
 refine wp_seq (wN [(0, 3), (1, 1)] ?_)
 refine wBh 0 HM0 fun b3 W2 HM4 => ?_
 refine wT [1] ?_
 refine wZ (wp_seq (wN [(0, 1), (1, 3), (2, 3)] ?_))
 refine wL 0 (ddC (a) (.slice pva a.b.v.length cva) (.slice pra a.r.p.2.2.length cra)) (HM4.out.part 0 rfl (ddC_all)) Tryz.underlying85 ?_
 refine wpS_alloc (i := 1) (dd := 3) (z := ddV noD (.slice none 0 0) (.slice none 0 0)) (cs := (ddC noD (.slice none 0 0) (.slice none 0 0)).toArray) rfl (by rfl) rfl (by kernel_rfl) rfl HM4.out covS_nil rfl ?_
 rintro b7 W6 hm5 -
 have HM8 := Lib.hid hm5
 clear hm5
 simp only [Act.put, List.setIfInBounds_toArray, List.set_cons_succ, List.set_cons_zero]
 refine wpS_storeA (i := 2) (L2 := [_, _]) (cs' := ddC (a) (.slice pva a.b.v.length cva) (.slice pra a.r.p.2.2.length cra)) rfl (by rfl) rfl rfl rfl (by kernel_rfl) (ddC_one _ _ _ _ _ _) HM8.out 0 rfl rfl (by kernel_rfl) (by kernel_rfl) covS_nil rfl ?_
 rintro W10 hm9 -
 have HM11 := Lib.hid hm9
 clear hm9
 refine wZ (wp_seq (wN [(0, 1), (1, 3)] (wT [0] ?_)))
 refine wpS_store1 (i := 1) (v := _) (L2 := [_, _]) (cs' := ddC (⟨0, a.n, a.key, a.b, a.r, a.part⟩) (.slice pva a.b.v.length cva) (.slice pra a.r.p.2.2.length cra)) rfl (by rfl) rfl rfl rfl rfl (by kernel_rfl) rfl HM11.out 0 rfl rfl (by kernel_rfl) (ddC_setKind _) covS_nil rfl ?_
 rintro W13 hm12 -
 have HM14 := Lib.hid hm12
 clear hm12
 refine wZ (wp_seq (wp_seq (wN [(0, 1), (1, 1)] (wT [0] ?_))))
 refine wM 1 (.int .i64 (a).kind) (HM14.out.part1 1 rfl rfl) Tryz.underlying3 ?_
 refine wZ (wp_block (wp_seq ?_))
 rcases (show a.kind = 1 ∨ a.kind = 2 ∨ a.kind = 3 ∨ a.kind = 4 ∨ (a.kind ≠ 1 ∧ a.kind ≠ 2 ∧ a.kind ≠ 3 ∧ a.kind ≠ 4) from by omega) with hk | hk | hk | hk | hk
 ·have hc := Lib.hid (may_1 hk)
  have k1 : (a.kind == 1) = true := beq_iff_eq.2 hk
  replace hk := Lib.hid hk
  refine wQ ?_
  refine wp_cond_true rfl (wp_seq (wN [(0, 1), (1, 3)] (wT [0] ?_)))
  refine wpS_store1 (i := 1) (v := _) (L2 := [_, _]) (cs' := ddC (⟨0, 0, a.key, a.b, a.r, a.part⟩) (.slice pva a.b.v.length cva) (.slice pra a.r.p.2.2.length cra)) rfl (by rfl) rfl rfl rfl rfl (by kernel_rfl) rfl HM14.out 0 rfl rfl (by kernel_rfl) (ddC_setN _) covS_nil rfl ?_
  rintro W16 hm15 -
  have HM17 := Lib.hid hm15
  clear hm15
  refine wZ (wp_seq ?_)
  rcases (show a.n < 0 ∨ (0 ≤ a.n ∧ 1000000 < a.n) ∨ (0 ≤ a.n ∧ a.n ≤ 1000000) from by omega) with h1 | ⟨h1, h2⟩ | ⟨h1, h2⟩
  ·have hn := Lib.hid (show numD a.n = false from decide_eq_false (by omega))
   have g1 : decide (0 ≤ a.n) = false := decide_eq_false (by omega)
   replace h1 := Lib.hid h1
   refine wN [(0, 1), (1, 1), (2, 1), (3, 1), (4, 1), (5, 1), (6, 1), (7, 1), (8, 1), (9, 1), (10, 3), (11, 1), (12, 1)] (wT [0] ?_)
   refine wM 1 (.int .i64 (a).n) (HM17.out.part1 1 rfl rfl) Tryz.underlying3 ?_
   refine wT [2, 3, 4] ?_
   refine wK 5 ?_
   refine wT [6, 7, 8] ?_
   refine wK 9 ?_
   refine wK 10 ?_
   refine wT [11, 12] ?_
   refine wZ (wp_ret ?_)
   refine block_ret (then_ret ?_)
   refine bodyPost_ret (results_tmp rfl _ _ _) rfl ?_
   rw [hc.out, hn.out]
   exact does_ret (Mem.only (M := [_]) HM17.out [2] rfl) rfl rfl
  ·have hn := Lib.hid (show numD a.n = false from decide_eq_false (by omega))
   have g1 : decide (0 ≤ a.n) = true := decide_eq_true (by omega)
   have g2 : decide (a.n ≤ 1000000) = false := decide_eq_false (by omega)
   replace h1 := Lib.hid h1
   replace h2 := Lib.hid h2
   refine wN [(0, 1), (1, 1), (2, 1), (3, 1), (4, 1), (5, 1), (6, 1), (7, 1), (8, 1), (9, 1), (10, 3), (11, 1), (12, 1)] (wT [0] ?_)
   refine wM 1 (.int .i64 (a).n) (HM17.out.part1 1 rfl rfl) Tryz.underlying3 ?_
   refine wT [2, 3, 4] ?_
   refine wM 5 (.int .i64 (a).n) (HM17.out.part1 1 rfl rfl) Tryz.underlying3 ?_
   refine wT [6, 7, 8] ?_
   refine wK 9 ?_
   refine wK 10 ?_
   refine wT [11, 12] ?_
   refine wZ (wp_ret ?_)
   refine block_ret (then_ret ?_)
   refine bodyPost_ret (results_tmp rfl _ _ _) rfl ?_
   rw [hc.out, hn.out]
   exact does_ret (Mem.only (M := [_]) HM17.out [2] rfl) rfl rfl
  ·have hn := Lib.hid (show numD a.n = true from decide_eq_true ⟨h1, h2⟩)
   have g1 : decide (0 ≤ a.n) = true := decide_eq_true (by omega)
   have g2 : decide (a.n ≤ 1000000) = true := decide_eq_true (by omega)
   obtain ⟨z, hz'⟩ := bool_letter (noneD ⟨0, 0, a.key, a.b, a.r, a.part⟩)
   have hz := Lib.hid hz'
   clear hz'
   replace h1 := Lib.hid h1
   replace h2 := Lib.hid h2
   refine wN [(0, 1), (1, 1), (2, 1), (3, 1), (4, 1), (5, 1), (6, 1), (7, 1), (8, 1), (9, 1), (10, 3), (11, 1), (12, 1)] (wT [0] ?_)
   refine wM 1 (.int .i64 (a).n) (HM17.out.part1 1 rfl rfl) Tryz.underlying3 ?_
   refine wT [2, 3, 4] ?_
   refine wM 5 (.int .i64 (a).n) (HM17.out.part1 1 rfl rfl) Tryz.underlying3 ?_
   refine wT [6, 7, 8] ?_
   refine wL 9 (ddC (⟨0, 0, a.key, a.b, a.r, a.part⟩) (.slice pva a.b.v.length cva) (.slice pra a.r.p.2.2.length cra)) (HM17.out.part 0 rfl (ddC_all)) Tryz.underlying85 ?_
   refine wD1 10 [_, _] [_, _, _] Tryz.call121 (rnone_d R _ _ ⟨0, 0, a.key, a.b, a.r, a.part⟩ ⟨ha.v, ha.lv, ha.r, ha.lr⟩) HM17 [2] fun W19 hm18 => ?_
   rw [hz.out]
   have HM20 := Lib.hid hm18
   clear hm18
   refine wT [11, 12] ?_
   refine wZ (wp_ret ?_)
   refine block_ret (then_ret ?_)
   refine bodyPost_ret (results_tmp rfl _ _ _) rfl ?_
   rw [hc.out, hn.out, hz.out]
   exact does_ret (Mem.only (M := [_]) HM20.out [0] rfl) rfl rfl
 ·have hc := Lib.hid (may_2 hk)
  have k1 : (a.kind == 1) = false := beq_eq_false_iff_ne.2 (by omega)
  have k2 : (a.kind == 2) = true := beq_iff_eq.2 hk
  replace hk := Lib.hid hk
  refine wQ ?_
  refine wp_cond_false rfl (wp_seq (wQ ?_))
  refine wp_cond_true rfl (wp_seq (wN [(0, 1), (1, 1), (2, 3)] ?_))
  refine wR 0 (v := rgV noR (.slice none 0 0)) (by kernel_rfl) ?_
  refine wT [1] ?_
  refine wpS_storeA (i := 2) (L2 := [_, _]) (cs' := ddC (⟨0, a.n, a.key, a.b, noR, a.part⟩) (.slice pva a.b.v.length cva) (.slice none 0 0)) rfl (by rfl) rfl rfl rfl (by kernel_rfl) (by rfl) HM14.out 0 rfl rfl (by kernel_rfl) (ddC_setRing _ _) covS_nil rfl ?_
  rintro W22 hm21 -
  have HM23 := Lib.hid hm21
  clear hm21
  refine wZ (wp_seq ?_)
  cases hm' : mayR a.r
  ·have hm := Lib.hid hm'
   clear hm'
   refine wN [(0, 1), (1, 1), (2, 3), (3, 1), (4, 1), (5, 3), (6, 1), (7, 1)] (wT [0] ?_)
   refine wL 1 (rgC (a).r (.slice pra a.r.p.2.2.length cra)) (HM23.out.part 1 rfl (ddC_ring)) Tryz.underlying78 ?_
   refine wD1 2 [_, _] [_, _, _] Tryz.call122 (rmayR_d R _ a.r ha.r ha.lr) HM23 [2] fun W25 hm24 => ?_
   rw [hm.out]
   have HM26 := Lib.hid hm24
   clear hm24
   refine wT [3] ?_
   refine wK 4 ?_
   refine wK 5 ?_
   refine wT [6, 7] ?_
   refine wZ (wp_ret ?_)
   refine block_ret (then_ret ?_)
   refine bodyPost_ret (results_tmp rfl _ _ _) rfl ?_
   rw [hc.out, hm.out]
   exact does_ret (Mem.only (M := [_]) HM26.out [0] rfl) rfl rfl
  ·have hm := Lib.hid hm'
   clear hm'
   obtain ⟨z, hz'⟩ := bool_letter (noneD ⟨0, a.n, a.key, a.b, noR, a.part⟩)
   have hz := Lib.hid hz'
   clear hz'
   refine wN [(0, 1), (1, 1), (2, 3), (3, 1), (4, 1), (5, 3), (6, 1), (7, 1)] (wT [0] ?_)
   refine wL 1 (rgC (a).r (.slice pra a.r.p.2.2.length cra)) (HM23.out.part 1 rfl (ddC_ring)) Tryz.underlying78 ?_
   refine wD1 2 [_, _] [_, _, _] Tryz.call122 (rmayR_d R _ a.r ha.r ha.lr) HM23 [2] fun W28 hm27 => ?_
   rw [hm.out]
   have HM29 := Lib.hid hm27
   clear hm27
   refine wT [3] ?_
   refine wL 4 (ddC (⟨0, a.n, a.key, a.b, noR, a.part⟩) (.slice pva a.b.v.length cva) (.slice none 0 0)) (HM29.out.part 1 rfl (ddC_all)) Tryz.underlying85 ?_
   refine wD1 5 [_, _] [_, _, _] Tryz.call121 (rnone_d R _ _ ⟨0, a.n, a.key, a.b, noR, a.part⟩ ⟨ha.v, ha.lv, srcNil R, Nat.zero_le _⟩) HM29 [0] fun W31 hm30 => ?_
   rw [hz.out]
   have HM32 := Lib.hid hm30
   clear hm30
   refine wT [6, 7] ?_
   refine wZ (wp_ret ?_)
   refine block_ret (then_ret ?_)
   refine bodyPost_ret (results_tmp rfl _ _ _) rfl ?_
   rw [hc.out, hm.out, hz.out]
   exact does_ret (Mem.only (M := [_]) HM32.out [0] rfl) rfl rfl
 ·have hc := Lib.hid (may_3 hk)
  have k1 : (a.kind == 1) = false := beq_eq_false_iff_ne.2 (by omega)
  have k2 : (a.kind == 2) = false := beq_eq_false_iff_ne.2 (by omega)
  have k3 : (a.kind == 3) = true := beq_iff_eq.2 hk
  replace hk := Lib.hid hk
  refine wQ ?_
  refine wp_cond_false rfl (wp_seq (wQ ?_))
  refine wp_cond_false rfl (wp_seq (wQ ?_))
  refine wp_cond_true rfl (wp_seq (wN [(0, 1), (1, 1), (2, 3), (3, 1), (4, 3), (5, 1), (6, 3)] ?_))
  refine wR 0 (v := bgV noB.k (.slice none 0 0)) (by kernel_rfl) ?_
  refine wT [1] ?_
  refine wpS_store1 (i := 2) (v := _) (L2 := [_, _]) (cs' := ddC (⟨0, 0, a.key, a.b, a.r, a.part⟩) (.slice pva a.b.v.length cva) (.slice pra a.r.p.2.2.length cra)) rfl (by rfl) rfl rfl rfl rfl (by kernel_rfl) rfl HM14.out 0 rfl rfl (by kernel_rfl) (ddC_setN _) covS_nil rfl ?_
  rintro W34 hm33 -
  have HM35 := Lib.hid hm33
  clear hm33
  refine wT [3] ?_
  refine wpS_store1 (i := 4) (v := _) (L2 := [_, _]) (cs' := ddC (⟨0, 0, ⟨#[]⟩, a.b, a.r, a.part⟩) (.slice pva a.b.v.length cva) (.slice pra a.r.p.2.2.length cra)) rfl (by rfl) rfl rfl rfl rfl (by kernel_rfl) rfl HM35.out 0 rfl rfl (by kernel_rfl) (ddC_setKey _) covS_nil rfl ?_
  rintro W37 hm36 -
  have HM38 := Lib.hid hm36
  clear hm36
  refine wT [5] ?_
  refine wpS_storeA (i := 6) (L2 := [_, _]) (cs' := ddC (⟨0, 0, ⟨#[]⟩, noB, a.r, a.part⟩) (.slice none 0 0) (.slice pra a.r.p.2.2.length cra)) rfl (by rfl) rfl rfl rfl (by kernel_rfl) (by rfl) HM38.out 0 rfl rfl (by kernel_rfl) (ddC_setBag _ _) covS_nil rfl ?_
  rintro W40 hm39 -
  have HM41 := Lib.hid hm39
  clear hm39
  refine wZ (wp_seq ?_)
  rcases (show keyB a.key = false ∨ (keyB a.key = true ∧ mayB a.b = false) ∨ (keyB a.key = true ∧ mayB a.b = true ∧ a.n < 0) ∨ (keyB a.key = true ∧ mayB a.b = true ∧ 0 ≤ a.n ∧ 1000000 < a.n) ∨ (keyB a.key = true ∧ mayB a.b = true ∧ 0 ≤ a.n ∧ a.n ≤ 1000000) from by cases keyB a.key <;> cases mayB a.b <;> simp <;> omega) with hm' | ⟨hm', hb'⟩ | ⟨hm', hb', h1⟩ | ⟨hm', hb', h1, h2⟩ | ⟨hm', hb', h1, h2⟩
  ·have hm := Lib.hid hm'
   clear hm'
   refine wN [(0, 1), (1, 1), (2, 3), (3, 1), (4, 1), (5, 1), (6, 3), (7, 1), (8, 1), (9, 1), (10, 1), (11, 1), (12, 1), (13, 1), (14, 1), (15, 1), (16, 1), (17, 1), (18, 1), (19, 1), (20, 3), (21, 1), (22, 1)] (wT [0] ?_)
   refine wM 1 (.string (a).key) (HM41.out.part1 1 rfl rfl) Tryz.underlying9 ?_
   refine wD1 2 [_, _, _] [_, _, _] Tryz.call57 (rkey_d a.key) HM41 [] fun W43 hm42 => ?_
   rw [hm.out]
   have HM44 := Lib.hid hm42
   clear hm42
   refine wT [3, 4] ?_
   refine wK 5 ?_
   refine wK 6 ?_
   refine wT [7, 8, 9] ?_
   refine wK 10 ?_
   refine wT [11, 12, 13, 14] ?_
   refine wK 15 ?_
   refine wT [16, 17, 18] ?_
   refine wK 19 ?_
   refine wK 20 ?_
   refine wT [21, 22] ?_
   refine wZ (wp_ret ?_)
   refine block_ret (then_ret ?_)
   refine bodyPost_ret (results_tmp rfl _ _ _) rfl ?_
   rw [hc.out, hm.out]
   exact does_ret (Mem.only (M := [_]) HM44.out [2] rfl) rfl rfl
  ·have hm := Lib.hid hm'
   clear hm'
   have hb := Lib.hid hb'
   clear hb'
   refine wN [(0, 1), (1, 1), (2, 3), (3, 1), (4, 1), (5, 1), (6, 3), (7, 1), (8, 1), (9, 1), (10, 1), (11, 1), (12, 1), (13, 1), (14, 1), (15, 1), (16, 1), (17, 1), (18, 1), (19, 1), (20, 3), (21, 1), (22, 1)] (wT [0] ?_)
   refine wM 1 (.string (a).key) (HM41.out.part1 1 rfl rfl) Tryz.underlying9 ?_
   refine wD1 2 [_, _, _] [_, _, _] Tryz.call57 (rkey_d a.key) HM41 [] fun W46 hm45 => ?_
   rw [hm.out]
   have HM47 := Lib.hid hm45
   clear hm45
   refine wT [3, 4] ?_
   refine wL 5 (bgC (a).b.k (.slice pva a.b.v.length cva)) (HM47.out.part 1 rfl (ddC_bag)) Tryz.underlying43 ?_
   refine wD1 6 [_, _] [_, _, _] Tryz.call89 (rmayB_d R _ a.b ha.v ha.lv) HM47 [2] fun W49 hm48 => ?_
   rw [hb.out]
   have HM50 := Lib.hid hm48
   clear hm48
   refine wT [7, 8, 9] ?_
   refine wK 10 ?_
   refine wT [11, 12, 13, 14] ?_
   refine wK 15 ?_
   refine wT [16, 17, 18] ?_
   refine wK 19 ?_
   refine wK 20 ?_
   refine wT [21, 22] ?_
   refine wZ (wp_ret ?_)
   refine block_ret (then_ret ?_)
   refine bodyPost_ret (results_tmp rfl _ _ _) rfl ?_
   rw [hc.out, hm.out, hb.out]
   exact does_ret (Mem.only (M := [_]) HM50.out [0] rfl) rfl rfl
  ·have hm := Lib.hid hm'
   clear hm'
   have hb := Lib.hid hb'
   clear hb'
   have hn := Lib.hid (show numD a.n = false from decide_eq_false (by omega))
   have g1 : decide (0 ≤ a.n) = false := decide_eq_false (by omega)
   replace h1 := Lib.hid h1
   refine wN [(0, 1), (1, 1), (2, 3), (3, 1), (4, 1), (5, 1), (6, 3), (7, 1), (8, 1), (9, 1), (10, 1), (11, 1), (12, 1), (13, 1), (14, 1), (15, 1), (16, 1), (17, 1), (18, 1), (19, 1), (20, 3), (21, 1), (22, 1)] (wT [0] ?_)
   refine wM 1 (.string (a).key) (HM41.out.part1 1 rfl rfl) Tryz.underlying9 ?_
   refine wD1 2 [_, _, _] [_, _, _] Tryz.call57 (rkey_d a.key) HM41 [] fun W52 hm51 => ?_
   rw [hm.out]
   have HM53 := Lib.hid hm51
   clear hm51
   refine wT [3, 4] ?_
   refine wL 5 (bgC (a).b.k (.slice pva a.b.v.length cva)) (HM53.out.part 1 rfl (ddC_bag)) Tryz.underlying43 ?_
   refine wD1 6 [_, _] [_, _, _] Tryz.call89 (rmayB_d R _ a.b ha.v ha.lv) HM53 [2] fun W55 hm54 => ?_
   rw [hb.out]
   have HM56 := Lib.hid hm54
   clear hm54
   refine wT [7, 8, 9] ?_
   refine wM 10 (.int .i64 (a).n) (HM56.out.part1 2 rfl rfl) Tryz.underlying3 ?_
   refine wT [11, 12, 13, 14] ?_
   refine wK 15 ?_
   refine wT [16, 17, 18] ?_
   refine wK 19 ?_
   refine wK 20 ?_
   refine wT [21, 22] ?_
   refine wZ (wp_ret ?_)
   refine block_ret (then_ret ?_)
   refine bodyPost_ret (results_tmp rfl _ _ _) rfl ?_
   rw [hc.out, hm.out, hb.out, hn.out]
   exact does_ret (Mem.only (M := [_]) HM56.out [0] rfl) rfl rfl
  ·have hm := Lib.hid hm'
   clear hm'
   have hb := Lib.hid hb'
   clear hb'
   have hn := Lib.hid (show numD a.n = false from decide_eq_false (by omega))
   have g1 : decide (0 ≤ a.n) = true := decide_eq_true (by omega)
   have g2 : decide (a.n ≤ 1000000) = false := decide_eq_false (by omega)
   replace h1 := Lib.hid h1
   replace h2 := Lib.hid h2
   refine wN [(0, 1), (1, 1), (2, 3), (3, 1), (4, 1), (5, 1), (6, 3), (7, 1), (8, 1), (9, 1), (10, 1), (11, 1), (12, 1), (13, 1), (14, 1), (15, 1), (16, 1), (17, 1), (18, 1), (19, 1), (20, 3), (21, 1), (22, 1)] (wT [0] ?_)
   refine wM 1 (.string (a).key) (HM41.out.part1 1 rfl rfl) Tryz.underlying9 ?_
   refine wD1 2 [_, _, _] [_, _, _] Tryz.call57 (rkey_d a.key) HM41 [] fun W58 hm57 => ?_
   rw [hm.out]
   have HM59 := Lib.hid hm57
   clear hm57
   refine wT [3, 4] ?_
   refine wL 5 (bgC (a).b.k (.slice pva a.b.v.length cva)) (HM59.out.part 1 rfl (ddC_bag)) Tryz.underlying43 ?_
   refine wD1 6 [_, _] [_, _, _] Tryz.call89 (rmayB_d R _ a.b ha.v ha.lv) HM59 [2] fun W61 hm60 => ?_
   rw [hb.out]
   have HM62 := Lib.hid hm60
   clear hm60
   refine wT [7, 8, 9] ?_
   refine wM 10 (.int .i64 (a).n) (HM62.out.part1 2 rfl rfl) Tryz.underlying3 ?_
   refine wT [11, 12, 13, 14] ?_
   refine wM 15 (.int .i64 (a).n) (HM62.out.part1 2 rfl rfl) Tryz.underlying3 ?_
   refine wT [16, 17, 18] ?_
   refine wK 19 ?_
   refine wK 20 ?_
   refine wT [21, 22] ?_
   refine wZ (wp_ret ?_)
   refine block_ret (then_ret ?_)
   refine bodyPost_ret (results_tmp rfl _ _ _) rfl ?_
   rw [hc.out, hm.out, hb.out, hn.out]
   exact does_ret (Mem.only (M := [_]) HM62.out [0] rfl) rfl rfl
  ·have hm := Lib.hid hm'
   clear hm'
   have hb := Lib.hid hb'
   clear hb'
   have hn := Lib.hid (show numD a.n = true from decide_eq_true ⟨h1, h2⟩)
   have g1 : decide (0 ≤ a.n) = true := decide_eq_true (by omega)
   have g2 : decide (a.n ≤ 1000000) = true := decide_eq_true (by omega)
   obtain ⟨z, hz'⟩ := bool_letter (noneD ⟨0, 0, ⟨#[]⟩, noB, a.r, a.part⟩)
   have hz := Lib.hid hz'
   clear hz'
   replace h1 := Lib.hid h1
   replace h2 := Lib.hid h2
   refine wN [(0, 1), (1, 1), (2, 3), (3, 1), (4, 1), (5, 1), (6, 3), (7, 1), (8, 1), (9, 1), (10, 1), (11, 1), (12, 1), (13, 1), (14, 1), (15, 1), (16, 1), (17, 1), (18, 1), (19, 1), (20, 3), (21, 1), (22, 1)] (wT [0] ?_)
   refine wM 1 (.string (a).key) (HM41.out.part1 1 rfl rfl) Tryz.underlying9 ?_
   refine wD1 2 [_, _, _] [_, _, _] Tryz.call57 (rkey_d a.key) HM41 [] fun W64 hm63 => ?_
   rw [hm.out]
   have HM65 := Lib.hid hm63
   clear hm63
   refine wT [3, 4] ?_
   refine wL 5 (bgC (a).b.k (.slice pva a.b.v.length cva)) (HM65.out.part 1 rfl (ddC_bag)) Tryz.underlying43 ?_
   refine wD1 6 [_, _] [_, _, _] Tryz.call89 (rmayB_d R _ a.b ha.v ha.lv) HM65 [2] fun W67 hm66 => ?_
   rw [hb.out]
   have HM68 := Lib.hid hm66
   clear hm66
   refine wT [7, 8, 9] ?_
   refine wM 10 (.int .i64 (a).n) (HM68.out.part1 2 rfl rfl) Tryz.underlying3 ?_
   refine wT [11, 12, 13, 14] ?_
   refine wM 15 (.int .i64 (a).n) (HM68.out.part1 2 rfl rfl) Tryz.underlying3 ?_
   refine wT [16, 17, 18] ?_
   refine wL 19 (ddC (⟨0, 0, ⟨#[]⟩, noB, a.r, a.part⟩) (.slice none 0 0) (.slice pra a.r.p.2.2.length cra)) (HM68.out.part 1 rfl (ddC_all)) Tryz.underlying85 ?_
   refine wD1 20 [_, _] [_, _, _] Tryz.call121 (rnone_d R _ _ ⟨0, 0, ⟨#[]⟩, noB, a.r, a.part⟩ ⟨vNil R, Nat.zero_le _, ha.r, ha.lr⟩) HM68 [0] fun W70 hm69 => ?_
   rw [hz.out]
   have HM71 := Lib.hid hm69
   clear hm69
   refine wT [21, 22] ?_
   refine wZ (wp_ret ?_)
   refine block_ret (then_ret ?_)
   refine bodyPost_ret (results_tmp rfl _ _ _) rfl ?_
   rw [hc.out, hm.out, hb.out, hn.out, hz.out]
   exact does_ret (Mem.only (M := [_]) HM71.out [0] rfl) rfl rfl
 ·have hc := Lib.hid (may_4 hk)
  have k1 : (a.kind == 1) = false := beq_eq_false_iff_ne.2 (by omega)
  have k2 : (a.kind == 2) = false := beq_eq_false_iff_ne.2 (by omega)
  have k3 : (a.kind == 3) = false := beq_eq_false_iff_ne.2 (by omega)
  have k4 : (a.kind == 4) = true := beq_iff_eq.2 hk
  replace hk := Lib.hid hk
  refine wQ ?_
  refine wp_cond_false rfl (wp_seq (wQ ?_))
  refine wp_cond_false rfl (wp_seq (wQ ?_))
  refine wp_cond_false rfl (wp_seq (wQ ?_))
  refine wp_cond_true rfl (wp_seq (wN [(0, 1), (1, 3)] (wT [0] ?_)))
  refine wpS_store1 (i := 1) (v := _) (L2 := [_, _]) (cs' := ddC (⟨0, a.n, a.key, a.b, a.r, 0⟩) (.slice pva a.b.v.length cva) (.slice pra a.r.p.2.2.length cra)) rfl (by rfl) rfl rfl rfl rfl (by kernel_rfl) rfl HM14.out 0 rfl rfl (by kernel_rfl) (ddC_setPart _) covS_nil rfl ?_
  rintro W73 hm72 -
  have HM74 := Lib.hid hm72
  clear hm72
  refine wZ (wp_seq ?_)
  rcases (show a.part < 0 ∨ (0 ≤ a.part ∧ 16 ≤ a.part) ∨ (0 ≤ a.part ∧ a.part < 16) from by omega) with h1 | ⟨h1, h2⟩ | ⟨h1, h2⟩
  ·have hn := Lib.hid (show decide (0 ≤ a.part ∧ a.part < 16) = false from decide_eq_false (by omega))
   have g1 : decide (0 ≤ a.part) = false := decide_eq_false (by omega)
   replace h1 := Lib.hid h1
   refine wN [(0, 1), (1, 1), (2, 1), (3, 1), (4, 1), (5, 1), (6, 1), (7, 1), (8, 1), (9, 1), (10, 3), (11, 1), (12, 1)] (wT [0] ?_)
   refine wM 1 (.int .i64 (a).part) (HM74.out.part1 1 rfl ddC_part) Tryz.underlying3 ?_
   refine wT [2, 3, 4] ?_
   refine wK 5 ?_
   refine wT [6, 7, 8] ?_
   refine wK 9 ?_
   refine wK 10 ?_
   refine wT [11, 12] ?_
   refine wZ (wp_ret ?_)
   refine block_ret (then_ret ?_)
   refine bodyPost_ret (results_tmp rfl _ _ _) rfl ?_
   rw [hc.out, hn.out]
   exact does_ret (Mem.only (M := [_]) HM74.out [2] rfl) rfl rfl
  ·have hn := Lib.hid (show decide (0 ≤ a.part ∧ a.part < 16) = false from decide_eq_false (by omega))
   have g1 : decide (0 ≤ a.part) = true := decide_eq_true (by omega)
   have g2 : decide (a.part < 16) = false := decide_eq_false (by omega)
   replace h1 := Lib.hid h1
   replace h2 := Lib.hid h2
   refine wN [(0, 1), (1, 1), (2, 1), (3, 1), (4, 1), (5, 1), (6, 1), (7, 1), (8, 1), (9, 1), (10, 3), (11, 1), (12, 1)] (wT [0] ?_)
   refine wM 1 (.int .i64 (a).part) (HM74.out.part1 1 rfl ddC_part) Tryz.underlying3 ?_
   refine wT [2, 3, 4] ?_
   refine wM 5 (.int .i64 (a).part) (HM74.out.part1 1 rfl ddC_part) Tryz.underlying3 ?_
   refine wT [6, 7, 8] ?_
   refine wK 9 ?_
   refine wK 10 ?_
   refine wT [11, 12] ?_
   refine wZ (wp_ret ?_)
   refine block_ret (then_ret ?_)
   refine bodyPost_ret (results_tmp rfl _ _ _) rfl ?_
   rw [hc.out, hn.out]
   exact does_ret (Mem.only (M := [_]) HM74.out [2] rfl) rfl rfl
  ·have hn := Lib.hid (show decide (0 ≤ a.part ∧ a.part < 16) = true from decide_eq_true ⟨h1, h2⟩)
   have g1 : decide (0 ≤ a.part) = true := decide_eq_true (by omega)
   have g2 : decide (a.part < 16) = true := decide_eq_true (by omega)
   obtain ⟨z, hz'⟩ := bool_letter (noneD ⟨0, a.n, a.key, a.b, a.r, 0⟩)
   have hz := Lib.hid hz'
   clear hz'
   replace h1 := Lib.hid h1
   replace h2 := Lib.hid h2
   refine wN [(0, 1), (1, 1), (2, 1), (3, 1), (4, 1), (5, 1), (6, 1), (7, 1), (8, 1), (9, 1), (10, 3), (11, 1), (12, 1)] (wT [0] ?_)
   refine wM 1 (.int .i64 (a).part) (HM74.out.part1 1 rfl ddC_part) Tryz.underlying3 ?_
   refine wT [2, 3, 4] ?_
   refine wM 5 (.int .i64 (a).part) (HM74.out.part1 1 rfl ddC_part) Tryz.underlying3 ?_
   refine wT [6, 7, 8] ?_
   refine wL 9 (ddC (⟨0, a.n, a.key, a.b, a.r, 0⟩) (.slice pva a.b.v.length cva) (.slice pra a.r.p.2.2.length cra)) (HM74.out.part 0 rfl (ddC_all)) Tryz.underlying85 ?_
   refine wD1 10 [_, _] [_, _, _] Tryz.call121 (rnone_d R _ _ ⟨0, a.n, a.key, a.b, a.r, 0⟩ ⟨ha.v, ha.lv, ha.r, ha.lr⟩) HM74 [2] fun W76 hm75 => ?_
   rw [hz.out]
   have HM77 := Lib.hid hm75
   clear hm75
   refine wT [11, 12] ?_
   refine wZ (wp_ret ?_)
   refine block_ret (then_ret ?_)
   refine bodyPost_ret (results_tmp rfl _ _ _) rfl ?_
   rw [hc.out, hn.out, hz.out]
   exact does_ret (Mem.only (M := [_]) HM77.out [0] rfl) rfl rfl
 ·have hc := Lib.hid (may_no hk)
  have k1 : (a.kind == 1) = false := beq_eq_false_iff_ne.2 (by omega)
  have k2 : (a.kind == 2) = false := beq_eq_false_iff_ne.2 (by omega)
  have k3 : (a.kind == 3) = false := beq_eq_false_iff_ne.2 (by omega)
  have k4 : (a.kind == 4) = false := beq_eq_false_iff_ne.2 (by omega)
  replace hk := Lib.hid hk
  refine wQ ?_
  refine wp_cond_false rfl (wp_seq (wQ ?_))
  refine wp_cond_false rfl (wp_seq (wQ ?_))
  refine wp_cond_false rfl (wp_seq (wQ ?_))
  refine wp_cond_false rfl (wp_skip (block_normal (then_normal (wp_seq (wQ ?_)))))
  refine wp_ret (bodyPost_ret (results_tmp rfl _ _ _) rfl ?_)
  rw [hc.out]
  exact does_ret (Mem.only (M := [_]) HM14.out [2] rfl) rfl rfl
def rfT (d : Nat) (S : Lg) (ys : List Dx) : At := exT fun s : Option Addr × Nat => [prT (ys.map (fun y => y.d) = S.l), boxT d (.cells #[.int .i64 (S.room : Int), .int .i64 (S.sure : Int), .slice s.1 ys.length s.2] 93 (0, 0)), rowT elemDx (.slice s.1 ys.length s.2) ys]
def rfN (u : Value) (S : Lg) : At := exT fun d : Nat => [prT (u = .pointer (some ⟨d, 0, none⟩)), rfT d S []]
section
variable {L : List At} {H0 : Nat → Prop} {w W : World} {d : Nat} {S : Lg} {ys : List Dx}
theorem Mem.rf (h : Mem (rfT d S ys :: L) H0 w W) : ∃ p c, ys.map (fun y => y.d) = S.l ∧ Mem (boxT d (.cells #[.int .i64 (S.room : Int), .int .i64 (S.sure : Int), .slice p ys.length c] 93 (0, 0)) :: rowT elemDx (.slice p ys.length c) ys :: L) H0 w W := by
 obtain ⟨s, h⟩ := Mem.ex h
 obtain ⟨hu, h⟩ := Mem.pr h
 exact ⟨s.1, s.2, hu, h⟩
theorem Mem.toRf {p : Option Addr} {c n : Nat} {a b : Int} (hy : ys.map (fun y => y.d) = S.l) (ha : a = (S.room : Int)) (hb : b = (S.sure : Int)) (hn : n = ys.length) (h : Mem (boxT d (.cells #[.int .i64 a, .int .i64 b, .slice p n c] 93 (0, 0)) :: rowT elemDx (.slice p n c) ys :: L) H0 w W) : Mem (rfT d S ys :: L) H0 w W := by
 subst ha hb hn
 exact Mem.addEx (p, c) (Mem.addPr hy h)
theorem Mem.rfN {u : Value} (h : Mem (rfN u S :: L) H0 w W) : ∃ d, u = .pointer (some ⟨d, 0, none⟩) ∧ Mem (rfT d S [] :: L) H0 w W := by
 obtain ⟨s, h⟩ := Mem.ex h
 obtain ⟨hu, h⟩ := Mem.pr h
 exact ⟨s, hu, h⟩
end
theorem write_no {S : Lg} {d : Dd} (h : mayD d = false) : writeL S d = (S, 1) := if_neg (by rw [h]; simp)
theorem write_full {S : Lg} {d : Dd} (h : mayD d = true) (h2 : S.room ≤ S.l.length) : writeL S d = (S, 5) := (if_pos h).trans (if_pos h2)
theorem write_ok {S : Lg} {d : Dd} (h : mayD d = true) (h2 : ¬ S.room ≤ S.l.length) : writeL S d = (⟨S.room, S.sure, S.l ++ [d]⟩, 0) := (if_pos h).trans (if_neg h2)
theorem new_cap (room : Int) : ((newL room).room : Int) = max 0 (min room 3000) := by
 show (((max 0 (min room 3000)).toNat : Nat) : Int) = _
 omega
set_option maxHeartbeats 4000000 in
set_option maxRecDepth 100000 in
theorem rwrite_d (R : At) (d : Nat) (S : Lg) (ys : List Dx) (x : Dx) (hx : DxR R x) (hS : LgOk S) : Does Tryz.prog 78 #[.pointer (some ⟨d, 0, none⟩), ddV x.d (.slice x.vp x.vn x.vc) (.slice x.rp x.rn x.rc)] [rfT d S ys, R] (.int .i64 (writeL S x.d).2) [rfT d (writeL S x.d).1 (if (writeL S x.d).2 = 0 then ys ++ [x] else ys), R] := by
 intro w H hp
 have HM0 := Lib.hid (mem_refl hp)
 clear hp
 obtain ⟨p, c, hys', HM1'⟩ := Mem.rf HM0.out
 clear HM0
 have HM0 := Lib.hid HM1'
 clear HM1'
 have hys := Lib.hid hys'
 have hyl : Hid (ys.length = S.l.length) := Lib.hid (by rw [← hys', List.length_map])
 clear hys'
 have hok1 : ys.length ≤ S.room := by rw [hyl.out]; exact hS.len
 have hok2 : S.sure ≤ ys.length := by rw [hyl.out]; exact hS.sure
 have hok3 := hS.room
 go_enter Tryz.func78, Tryz.ntmps78
 refine wp_seq (wN [(0, 3), (1, 1)] ?_)
 refine wBh 0 HM0 fun b3 W2 HM4 => ?_
 refine wT [1] ?_
 refine wZ (wp_seq (wp_seq ?_))
 cases hm' : mayD x.d
 ·have hm := Lib.hid hm'
  have hw := Lib.hid (write_no (S := S) hm')
  clear hm'
  refine wN [(0, 1), (1, 3), (2, 1)] ?_
  refine wL 0 (ddC (x.d) (.slice x.vp x.vn x.vc) (.slice x.rp x.rn x.rc)) (HM4.out.part 0 rfl (ddC_all)) Tryz.underlying85 ?_
  refine wD1 1 [_, _, _] [_, _, _, _] Tryz.call106 (rmayD_d R _ _ x.d hx) HM4 [3] fun W6 hm5 => ?_
  rw [hm.out]
  have HM7 := Lib.hid hm5
  clear hm5
  refine wT [2] ?_
  refine wZ (wp_cond_true rfl (wp_seq (wQ ?_)))
  refine wp_ret (then_ret (bodyPost_ret (results_tmp rfl _ _ _) rfl ?_))
  rw [hw.out]
  exact does_ret (Mem.toRf hys.out rfl rfl rfl (Mem.only (M := [_, _, _]) HM7.out [2, 2, 0] rfl)) rfl rfl
 ·have hm := Lib.hid hm'
  clear hm'
  refine wN [(0, 1), (1, 3), (2, 1)] ?_
  refine wL 0 (ddC (x.d) (.slice x.vp x.vn x.vc) (.slice x.rp x.rn x.rc)) (HM4.out.part 0 rfl (ddC_all)) Tryz.underlying85 ?_
  refine wD1 1 [_, _, _] [_, _, _, _] Tryz.call106 (rmayD_d R _ _ x.d hx) HM4 [3] fun W9 hm8 => ?_
  rw [hm.out]
  have HM10 := Lib.hid hm8
  clear hm8
  refine wT [2] ?_
  refine wZ (wp_cond_false rfl (wp_skip (then_normal (wp_seq (wp_seq ?_)))))
  by_cases h2 : S.room ≤ ys.length
  ·have hw := Lib.hid (write_full (S := S) hm.out (by rw [← hyl.out]; exact h2))
   have g1 : decide ((S.room : Int) ≤ (ys.length : Int)) = true := decide_eq_true (by omega)
   have g1' : decide (S.room ≤ ys.length) = true := decide_eq_true h2
   replace h2 := Lib.hid h2
   refine wp_region_M (fun k => k ∈ ([] : List Nat)) [(0, 1), (1, 1), (2, 1), (3, 1), (4, 1), (5, 1), (6, 1), (7, 1), (8, 1), (9, 1)] (by kernel_rfl) (by kernel_rfl) HM10.out ?_
   intro W11 hm12
   have HM13 := Lib.hid hm12
   clear hm12
   have Crb := Mem.cell HM13.out 2 rfl
   refine wT [0, 1, 2, 3, 4, 5, 6, 7, 8, 9] ?_
   clear Crb
   refine wZ (wp_cond_true rfl (wp_seq (wQ ?_)))
   refine wp_ret (then_ret (bodyPost_ret (results_tmp rfl _ _ _) rfl ?_))
   rw [hw.out]
   exact does_ret (Mem.toRf hys.out rfl rfl rfl (Mem.only (M := [_, _, _]) HM13.out [2, 2, 0] rfl)) rfl rfl
  ·have hw := Lib.hid (write_ok (S := S) hm.out (by rw [← hyl.out]; exact h2))
   have g1 : decide ((S.room : Int) ≤ (ys.length : Int)) = false := decide_eq_false (by omega)
   have g1' : decide (S.room ≤ ys.length) = false := decide_eq_false h2
   refine wp_region_M (fun k => k ∈ ([] : List Nat)) [(0, 1), (1, 1), (2, 1), (3, 1), (4, 1), (5, 1), (6, 1), (7, 1), (8, 1), (9, 1)] (by kernel_rfl) (by kernel_rfl) HM10.out ?_
   intro W14 hm15
   have HM16 := Lib.hid hm15
   clear hm15
   have Crb := Mem.cell HM16.out 2 rfl
   refine wT [0, 1, 2, 3, 4, 5, 6, 7, 8, 9] ?_
   clear Crb
   refine wZ (wp_cond_false rfl (wp_skip (then_normal (wp_seq ?_))))
   refine wp_region_M (fun k => k ∈ ([d, b3] : List Nat)) [(0, 0), (1, 0), (2, 0), (3, 0), (4, 2), (5, 1), (6, 3), (7, 3), (8, 1), (9, 1), (10, 4)] (by kernel_rfl) (by kernel_rfl) HM16.out ?_
   intro W17 hm18
   have HM19 := Lib.hid hm18
   clear hm18
   refine wA [0, 1, 2, 3] ?_
   have Crb := Mem.cell HM19.out 2 rfl
   refine wS [4] ?_
   clear Crb
   refine wL 5 (ddC (x.d) (.slice x.vp x.vn x.vc) (.slice x.rp x.rn x.rc)) (HM19.out.part 1 rfl (ddC_all)) Tryz.underlying85 ?_
   refine wpS_buildN elemDx (i := 6) (dd := 24) (n := 1) (xs := [x]) (cs := (x.enc ++ []).toArray) rfl (by rfl) (fun _ => by kernel_rfl) rfl rfl HM19.out (covS_box 2 rfl (covS_box 1 rfl covS_nil)) rfl ?_
   rintro b23 W24 hm25 hg26
   have HM27 := Lib.hid hm25
   clear hm25
   simp only [Act.put, List.setIfInBounds_toArray, List.set_cons_succ, List.set_cons_zero]
   refine wpS_append (E := elemDx) (i := 7) (d := some 25) (L2 := [_, _, _, _]) rfl (by rfl) rfl HM27.out 4 rfl rfl ((HM27.out.src 0 rfl rowT_reads)) rfl (by rw [List.length_singleton]; show _ * 488 ≤ _; omega) rfl (covS_box 3 rfl (covS_box 2 rfl covS_nil)) rfl ?_
   rintro v31 W32 hm33 hg34
   obtain ⟨v31p, v31c, rfl⟩ := row_form (Mem.src hm33 0 rfl rowT_reads)
   have HM35 := Lib.hid hm33
   clear hm33
   simp only [Act.put, List.setIfInBounds_toArray, List.set_cons_succ, List.set_cons_zero]
   refine wT [8, 9] ?_
   refine wpS_store14 (i := 10) (L2 := [_, _, _, _]) (cs' := [_, _, _]) rfl (by rfl) rfl rfl rfl rfl (by kernel_rfl) rfl HM35.out 4 rfl rfl rfl rfl  rfl ?_
   rintro W37 hm36
   have HM39 := Lib.hid hm36
   clear hm36
   refine wZ (wp_seq (wQ ?_))
   refine wp_ret (bodyPost_ret (results_tmp rfl _ _ _) rfl ?_)
   rw [hw.out]
   exact does_ret (Mem.toRf (S := ⟨S.room, S.sure, S.l ++ [x.d]⟩) (by rw [List.map_append, hys.out]; rfl) rfl rfl (by simp) (Mem.only (M := [_, _, _]) HM39.out [0, 0, 1] rfl)) rfl rfl
set_option maxHeartbeats 4000000 in
set_option maxRecDepth 100000 in
theorem rnewL_d (room : Int) : DoesU Tryz.prog 11 #[.int .i64 room] [] (fun u => [rfN u (newL room)]) := by
 intro w H hp
 have HM0 := Lib.hid (mem_refl hp)
 clear hp
 go_enter Tryz.func11, Tryz.ntmps11
 refine wp_seq (wQ ?_)
 refine wp_seq ?_
 obtain ⟨cp, hcap'⟩ := int_letter ((newL room).room : Int)
 have hcv : Hid ((if (0 : Int) < (if (3000 : Int) < room then (3000 : Int) else room) then (if (3000 : Int) < room then (3000 : Int) else room) else 0) = cp) := Lib.hid (by rw [← hcap', new_cap]; split <;> split <;> omega)
 have hcap := Lib.hid hcap'
 clear hcap'
 refine wN [(0, 1), (1, 1), (2, 1), (3, 1), (4, 3), (5, 1)] (wT [0, 1] ?_)
 refine wT [2] ?_
 rw [hcv.out]
 refine wT [3] ?_
 refine wBh 4 HM0 fun b3 W2 HM4 => ?_
 refine wT [5] ?_
 refine wZ (wp_ret (bodyPost_ret (results_tmp rfl _ _ _) rfl ?_))
 exact doesU_ret (post := fun u => [rfN u (newL room)]) (Mem.addEx b3 (Mem.addPr rfl (Mem.toRf rfl hcap.out.symm rfl rfl (Mem.only (M := [_, _]) (Mem.nilRow elemDx HM4.out) [1, 0] rfl)))) rfl
end Go.Proofs.YtcbnhakfijiioaaGreat
