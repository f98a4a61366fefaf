/- The reference's teller: Heard. -/
import Derived.Test.YtnkchmafofpimaaGsB
namespace Go.Proofs.Ytnkchmafofpimaa
open Go Go.RowKit Go.BigFrame

set_option maxHeartbeats 4000000 in
set_option maxRecDepth 100000 in
theorem rheard_d (d : Nat) (S : Tl) (B : At) (f : Int) (vr : Value) (r : Rg) (hr : Reads elemI B vr r.p.2.2) (lr : r.p.2.2.length ≤ 1000) : Does Try.prog 15 #[.pointer (some ⟨d, 0, none⟩), .int .i64 f, rgV r vr] [tellT d S B] (.tuple #[]) [tellT d (heardF S f r) B] := by
  intro w H hp
  have HM0 := Lib.hid (mem_refl hp)
  clear hp
  obtain ⟨po, z, l, hz', HMt⟩ := Mem.tell HM0.out
  clear HM0
  have HM0 := Lib.hid HMt
  clear HMt
  have hz := Lib.hid hz'
  clear hz'
  obtain ⟨R, hR⟩ : ∃ R, listT (B :: l) = R := ⟨_, rfl⟩
  rw [hR] at hz HM0
  replace hR := Lib.hid hR
  have hrR : Hid (Reads elemI R vr r.p.2.2) := Lib.hid (by rw [← hR.out]; exact reads_first hr)
  obtain ⟨pr, cr, rfl⟩ := row_form (Mem.src HM0.out 2 rfl hrR.out)
  clear hr
  go_enter Try.func15, Try.ntmps15
  refine wp_seq ?_
  refine wp_region_N [(0, 3)] (by kernel_rfl) ?_
  refine wpS_boxA (i := 0) (dd := 5) rfl (by rfl) rfl rfl HM0.out covS_nil rfl ?_
  rintro b3 W2 hm1 -
  have HM4 := Lib.hid hm1
  clear hm1
  simp only [Act.put, List.setIfInBounds_toArray, List.set_cons_succ, List.set_cons_zero]
  refine wpS_nil ?_
  refine then_normal ?_
  refine wp_seq ?_
  refine wp_seq ?_
  rcases (show nodeE f ≠ true ∨ (nodeE f = true ∧ f = S.self) ∨ (nodeE f = true ∧ f ≠ S.self ∧ mayR r ≠ true) ∨ (nodeE f = true ∧ f ≠ S.self ∧ mayR r = true) from by by_cases k1 : nodeE f = true <;> by_cases k2 : f = S.self <;> by_cases k3 : mayR r = true <;> simp [k1, k2, k3]) with h1 | ⟨h1, h2⟩ | ⟨h1, h2, h3⟩ | ⟨h1, h2, h3⟩
  · have gn := Bool.eq_false_iff.2 h1
    have hc : Hid (heardF S f r = S) := Lib.hid (if_neg (by unfold hearB; rw [gn]; simp))
    clear h1
    refine wp_region_N [(0, 1), (1, 3), (2, 1), (3, 1), (4, 1), (5, 1), (6, 1), (7, 1), (8, 1), (9, 1), (10, 1), (11, 1), (12, 1), (13, 3), (14, 1), (15, 1)] (by kernel_rfl) ?_
    refine wpS_this [0] rfl (by kernel_rfl) (by simp only [pickL, nthL, List.cons_append, List.nil_append]; rfl) ?_
    repeat (go_big_quiet_step (fail))
    refine wpQuiet_nil ?_
    refine wpS_does1 (i := 1) (d := some 7) (rem := [_, _, _, _]) (out := [_, _, _, _]) rfl (by rfl) rfl Try.call17 (rnode_d _) rfl HM4.out [] rfl covS_nil rfl rfl ?_
    rintro W6 hm5 -
    have HM7 := Lib.hid hm5
    clear hm5
    simp only [Act.put, List.setIfInBounds_toArray, List.set_cons_succ, List.set_cons_zero]
    refine wpS_this [2, 3, 4, 5, 6, 7] rfl (by kernel_rfl) (by simp only [pickL, nthL, List.cons_append, List.nil_append]; rfl) ?_
    repeat (go_big_quiet_step (fail))
    refine wpQuiet_nil ?_
    refine wpS_skip (i := 8) (d := some 14) rfl (by rfl) rfl ?_
    simp only [Act.put, List.setIfInBounds_toArray, List.set_cons_succ, List.set_cons_zero]
    refine wpS_this [9, 10, 11] rfl (by kernel_rfl) (by simp only [pickL, nthL, List.cons_append, List.nil_append]; rfl) ?_
    repeat (go_big_quiet_step (fail))
    refine wpQuiet_nil ?_
    refine wpS_skip (i := 12) (d := some 18) rfl (by rfl) rfl ?_
    simp only [Act.put, List.setIfInBounds_toArray, List.set_cons_succ, List.set_cons_zero]
    refine wpS_skip (i := 13) (d := some 19) rfl (by rfl) rfl ?_
    simp only [Act.put, List.setIfInBounds_toArray, List.set_cons_succ, List.set_cons_zero]
    refine wpS_this [14, 15] rfl (by kernel_rfl) (by simp only [pickL, nthL, List.cons_append, List.nil_append]; rfl) ?_
    repeat (go_big_quiet_step (fail))
    refine wpQuiet_nil ?_
    refine wpS_nil ?_
    refine then_normal ?_
    refine wp_cond_true rfl ?_
    refine wp_ret ?_
    refine then_ret ?_
    refine bodyPost_ret (results_none rfl _ _ _) rfl ?_
    refine does_ret (Mem.toTell (po := po) (z := z) (l := l) (S := heardF S _ r) ?_ ?_) rfl rfl
    · rw [hc.out, hR.out]; exact hz.out
    · rw [hc.out, hR.out]; exact (Mem.only (M := [_, _, _]) HM7.out [1, 1, 1] rfl)
  · have gn := h1
    subst h2
    have ge : (S.self == S.self) = true := beq_self_eq_true _
    have hc : Hid (heardF S S.self r = S) := Lib.hid (if_neg (by unfold hearB; simp))
    clear h1
    refine wp_region_N [(0, 1), (1, 3), (2, 1), (3, 1), (4, 1), (5, 1), (6, 1), (7, 1), (8, 1), (9, 1), (10, 1), (11, 1), (12, 1), (13, 3), (14, 1), (15, 1)] (by kernel_rfl) ?_
    refine wpS_this [0] rfl (by kernel_rfl) (by simp only [pickL, nthL, List.cons_append, List.nil_append]; rfl) ?_
    repeat (go_big_quiet_step (fail))
    refine wpQuiet_nil ?_
    refine wpS_does1 (i := 1) (d := some 7) (rem := [_, _, _, _]) (out := [_, _, _, _]) rfl (by rfl) rfl Try.call17 (rnode_d _) rfl HM4.out [] rfl covS_nil rfl rfl ?_
    rintro W9 hm8 -
    have HM10 := Lib.hid hm8
    clear hm8
    simp only [Act.put, List.setIfInBounds_toArray, List.set_cons_succ, List.set_cons_zero]
    refine wpS_this [2, 3, 4, 5, 6, 7] rfl (by kernel_rfl) (by simp only [pickL, nthL, List.cons_append, List.nil_append]; rfl) ?_
    repeat (go_big_quiet_step (fail))
    refine wpQuiet_nil ?_
    refine wpS_load1 (i := 8) (d := some 14) (u := .int .i64 S.self) rfl (by rfl) rfl rfl (HM10.out.sub1 1 rfl rfl) Try.underlying3 rfl rfl ?_
    simp only [Act.put, List.setIfInBounds_toArray, List.set_cons_succ, List.set_cons_zero]
    refine wpS_this [9, 10, 11] rfl (by kernel_rfl) (by simp only [pickL, nthL, List.cons_append, List.nil_append]; rfl) ?_
    repeat (go_big_quiet_step (fail))
    refine wpQuiet_nil ?_
    refine wpS_skip (i := 12) (d := some 18) rfl (by rfl) rfl ?_
    simp only [Act.put, List.setIfInBounds_toArray, List.set_cons_succ, List.set_cons_zero]
    refine wpS_skip (i := 13) (d := some 19) rfl (by rfl) rfl ?_
    simp only [Act.put, List.setIfInBounds_toArray, List.set_cons_succ, List.set_cons_zero]
    refine wpS_this [14, 15] rfl (by kernel_rfl) (by simp only [pickL, nthL, List.cons_append, List.nil_append]; rfl) ?_
    repeat (go_big_quiet_step (fail))
    refine wpQuiet_nil ?_
    refine wpS_nil ?_
    refine then_normal ?_
    refine wp_cond_true rfl ?_
    refine wp_ret ?_
    refine then_ret ?_
    refine bodyPost_ret (results_none rfl _ _ _) rfl ?_
    refine does_ret (Mem.toTell (po := po) (z := z) (l := l) (S := heardF S _ r) ?_ ?_) rfl rfl
    · rw [hc.out, hR.out]; exact hz.out
    · rw [hc.out, hR.out]; exact (Mem.only (M := [_, _, _]) HM10.out [1, 1, 1] rfl)
  · have gn := h1
    have ge : (f == S.self) = false := beq_eq_false_iff_ne.2 h2
    have gm := Bool.eq_false_iff.2 h3
    have hc : Hid (heardF S f r = S) := Lib.hid (if_neg (by unfold hearB; rw [gm]; simp))
    clear h1 h2 h3
    refine wp_region_N [(0, 1), (1, 3), (2, 1), (3, 1), (4, 1), (5, 1), (6, 1), (7, 1), (8, 1), (9, 1), (10, 1), (11, 1), (12, 1), (13, 3), (14, 1), (15, 1)] (by kernel_rfl) ?_
    refine wpS_this [0] rfl (by kernel_rfl) (by simp only [pickL, nthL, List.cons_append, List.nil_append]; rfl) ?_
    repeat (go_big_quiet_step (fail))
    refine wpQuiet_nil ?_
    refine wpS_does1 (i := 1) (d := some 7) (rem := [_, _, _, _]) (out := [_, _, _, _]) rfl (by rfl) rfl Try.call17 (rnode_d _) rfl HM4.out [] rfl covS_nil rfl rfl ?_
    rintro W12 hm11 -
    have HM13 := Lib.hid hm11
    clear hm11
    simp only [Act.put, List.setIfInBounds_toArray, List.set_cons_succ, List.set_cons_zero]
    refine wpS_this [2, 3, 4, 5, 6, 7] rfl (by kernel_rfl) (by simp only [pickL, nthL, List.cons_append, List.nil_append]; rfl) ?_
    repeat (go_big_quiet_step (fail))
    refine wpQuiet_nil ?_
    refine wpS_load1 (i := 8) (d := some 14) (u := .int .i64 S.self) rfl (by rfl) rfl rfl (HM13.out.sub1 1 rfl rfl) Try.underlying3 rfl rfl ?_
    simp only [Act.put, List.setIfInBounds_toArray, List.set_cons_succ, List.set_cons_zero]
    refine wpS_this [9, 10, 11] rfl (by kernel_rfl) (by simp only [pickL, nthL, List.cons_append, List.nil_append]; rfl) ?_
    repeat (go_big_quiet_step (fail))
    refine wpQuiet_nil ?_
    refine wpS_loadA (i := 12) (d := some 18) (cells := rgC (r) (.slice pr r.p.2.2.length cr)) rfl (by rfl) rfl rfl (HM13.out.sub 0 rfl (fun k u h => by rw [Nat.zero_add]; exact h)) Try.underlying37 rfl (by kernel_rfl) rfl ?_
    simp only [Act.put, List.setIfInBounds_toArray, List.set_cons_succ, List.set_cons_zero]
    refine wpS_does1 (i := 13) (d := some 19) (rem := [_, _, _]) (out := [_, _, _, _]) rfl (by rfl) rfl Try.call31 (rmayR_d R _ r hrR.out lr) rfl HM13.out [3] rfl covS_nil rfl rfl ?_
    rintro W15 hm14 -
    have HM16 := Lib.hid hm14
    clear hm14
    simp only [Act.put, List.setIfInBounds_toArray, List.set_cons_succ, List.set_cons_zero]
    refine wpS_this [14, 15] rfl (by kernel_rfl) (by simp only [pickL, nthL, List.cons_append, List.nil_append]; rfl) ?_
    repeat (go_big_quiet_step (fail))
    refine wpQuiet_nil ?_
    refine wpS_nil ?_
    refine then_normal ?_
    refine wp_cond_true rfl ?_
    refine wp_ret ?_
    refine then_ret ?_
    refine bodyPost_ret (results_none rfl _ _ _) rfl ?_
    refine does_ret (Mem.toTell (po := po) (z := z) (l := l) (S := heardF S _ r) ?_ ?_) rfl rfl
    · rw [hc.out, hR.out]; exact hz.out
    · rw [hc.out, hR.out]; exact (Mem.only (M := [_, _, _]) HM16.out [2, 2, 0] rfl)
  · have gn := h1
    have ge : (f == S.self) = false := beq_eq_false_iff_ne.2 h2
    have gm := h3
    have hb : hearB S.self f r = true := by unfold hearB; rw [h1, h3, decide_eq_true h2]; rfl
    have hn8 : Hid (0 ≤ f ∧ f < 8) := Lib.hid (of_decide_eq_true h1)
    have hf8 : Hid (f.toNat < 8) := Lib.hid (by have := hn8.out; omega)
    have hc : Hid (heardF S f r = ⟨S.self, S.o, upd S.h f.toNat true, upd S.k f.toNat (if S.h f.toNat = true then joinR (S.k f.toNat) r else r)⟩) := Lib.hid (if_pos hb)
    clear h1 h2 h3 hb
    refine wp_region_N [(0, 1), (1, 3), (2, 1), (3, 1), (4, 1), (5, 1), (6, 1), (7, 1), (8, 1), (9, 1), (10, 1), (11, 1), (12, 1), (13, 3), (14, 1), (15, 1)] (by kernel_rfl) ?_
    refine wpS_this [0] rfl (by kernel_rfl) (by simp only [pickL, nthL, List.cons_append, List.nil_append]; rfl) ?_
    repeat (go_big_quiet_step (fail))
    refine wpQuiet_nil ?_
    refine wpS_does1 (i := 1) (d := some 7) (rem := [_, _, _, _]) (out := [_, _, _, _]) rfl (by rfl) rfl Try.call17 (rnode_d _) rfl HM4.out [] rfl covS_nil rfl rfl ?_
    rintro W18 hm17 -
    have HM19 := Lib.hid hm17
    clear hm17
    simp only [Act.put, List.setIfInBounds_toArray, List.set_cons_succ, List.set_cons_zero]
    refine wpS_this [2, 3, 4, 5, 6, 7] rfl (by kernel_rfl) (by simp only [pickL, nthL, List.cons_append, List.nil_append]; rfl) ?_
    repeat (go_big_quiet_step (fail))
    refine wpQuiet_nil ?_
    refine wpS_load1 (i := 8) (d := some 14) (u := .int .i64 S.self) rfl (by rfl) rfl rfl (HM19.out.sub1 1 rfl rfl) Try.underlying3 rfl rfl ?_
    simp only [Act.put, List.setIfInBounds_toArray, List.set_cons_succ, List.set_cons_zero]
    refine wpS_this [9, 10, 11] rfl (by kernel_rfl) (by simp only [pickL, nthL, List.cons_append, List.nil_append]; rfl) ?_
    repeat (go_big_quiet_step (fail))
    refine wpQuiet_nil ?_
    refine wpS_loadA (i := 12) (d := some 18) (cells := rgC (r) (.slice pr r.p.2.2.length cr)) rfl (by rfl) rfl rfl (HM19.out.sub 0 rfl (fun k u h => by rw [Nat.zero_add]; exact h)) Try.underlying37 rfl (by kernel_rfl) rfl ?_
    simp only [Act.put, List.setIfInBounds_toArray, List.set_cons_succ, List.set_cons_zero]
    refine wpS_does1 (i := 13) (d := some 19) (rem := [_, _, _]) (out := [_, _, _, _]) rfl (by rfl) rfl Try.call31 (rmayR_d R _ r hrR.out lr) rfl HM19.out [3] rfl covS_nil rfl rfl ?_
    rintro W21 hm20 -
    have HM22 := Lib.hid hm20
    clear hm20
    simp only [Act.put, List.setIfInBounds_toArray, List.set_cons_succ, List.set_cons_zero]
    refine wpS_this [14, 15] rfl (by kernel_rfl) (by simp only [pickL, nthL, List.cons_append, List.nil_append]; rfl) ?_
    repeat (go_big_quiet_step (fail))
    refine wpQuiet_nil ?_
    refine wpS_nil ?_
    refine then_normal ?_
    refine wp_cond_false rfl ?_
    refine wp_skip ?_
    refine then_normal ?_
    refine wp_seq ?_
    refine wp_seq ?_
    cases hh : S.h f.toNat
    · have gh := hh
      have hcc : Hid ((if S.h f.toNat = true then joinR (S.k f.toNat) r else r) = r) := Lib.hid (if_neg (by rw [hh]; exact Bool.false_ne_true))
      clear hh
      refine wp_region_N [(0, 1), (1, 1), (2, 1), (3, 1), (4, 1), (5, 1)] (by kernel_rfl) ?_
      refine wpS_this [0, 1, 2, 3] rfl (by kernel_rfl) (by simp only [pickL, nthL, List.cons_append, List.nil_append]; rfl) ?_
      repeat (go_big_quiet_step (fail))
      refine wpQuiet_nil ?_
      refine wpS_read (i := 4) (d := some 26) rfl (by rfl) (run_addrHs (hn8.out) rfl rfl rfl) rfl ?_
      simp only [Act.put, List.setIfInBounds_toArray, List.set_cons_succ, List.set_cons_zero]
      refine wpS_load1 (i := 5) (d := some 27) (u := .bool _) rfl (by rfl) rfl rfl (HM22.out.sub1 2 rfl (tlC_h (hf8.out))) Try.underlying4 rfl rfl ?_
      simp only [Act.put, List.setIfInBounds_toArray, List.set_cons_succ, List.set_cons_zero]
      rw [gh]
      refine wpS_nil ?_
      refine then_normal ?_
      refine wp_cond_false rfl ?_
      refine wp_skip ?_
      refine then_normal ?_
      refine wp_region_M (fun k => k ∈ ([b3, d] : List Nat)) [(0, 1), (1, 1), (2, 0), (3, 0), (4, 1), (5, 1), (6, 1), (7, 1), (9, 0), (10, 0), (8, 4), (11, 1), (12, 4)] (by kernel_rfl) (by kernel_rfl) HM22.out ?_
      intro W23 hm24
      have HM25 := Lib.hid hm24
      clear hm24
      refine wpS_this [0, 1] rfl (by kernel_rfl) (by simp only [pickL, nthL, List.cons_append, List.nil_append]; rfl) ?_
      repeat (go_big_quiet_step (fail))
      refine wpQuiet_nil ?_
      refine wpS_all [2, 3] rfl (by kernel_rfl) (by simp only [pickL, nthL, List.cons_append, List.nil_append]; rfl) ?_
      repeat (go_big_quiet_step (fail))
      refine wpQuiet_nil ?_
      refine wpS_loadA (i := 4) (d := some 40) (cells := rgC (r) (.slice pr r.p.2.2.length cr)) rfl (by rfl) rfl rfl (HM25.out.sub 1 rfl (fun k u h => by rw [Nat.zero_add]; exact h)) Try.underlying37 rfl (by kernel_rfl) rfl ?_
      simp only [Act.put, List.setIfInBounds_toArray, List.set_cons_succ, List.set_cons_zero]
      refine wpS_this [5, 6] rfl (by kernel_rfl) (by simp only [pickL, nthL, List.cons_append, List.nil_append]; rfl) ?_
      repeat (go_big_quiet_step (fail))
      refine wpQuiet_nil ?_
      refine wpS_read (i := 7) (d := some 43) rfl (by rfl) (run_addrRg (hn8.out) rfl rfl rfl) rfl ?_
      simp only [Act.put, List.setIfInBounds_toArray, List.set_cons_succ, List.set_cons_zero]
      refine wpS_all [9, 10] rfl (by kernel_rfl) (by simp only [pickL, nthL, List.cons_append, List.nil_append]; rfl) ?_
      repeat (go_big_quiet_step (fail))
      refine wpQuiet_nil ?_
      refine wpS_storeA4 (i := 8) (L2 := [_, _, _]) (cs' := tlC S.self po S.h (upd S.k f.toNat r) (upd z f.toNat (.slice pr r.p.2.2.length cr))) rfl (by rfl) rfl rfl rfl (by kernel_rfl) (rgC_one _ _ _) HM25.out 2 rfl rfl (Nat.ble_eq_true_of_le (by rw [tlC_len]; show _ + 43 ≤ _; have := hf8.out; omega)) (tlC_setK (hf8.out) (r) (.slice pr r.p.2.2.length cr))  rfl ?_
      rintro W27 hm26
      have HM28 := Lib.hid hm26
      clear hm26
      refine wpS_read (i := 11) (d := some 46) rfl (by rfl) (run_addrHs (hn8.out) rfl rfl rfl) rfl ?_
      simp only [Act.put, List.setIfInBounds_toArray, List.set_cons_succ, List.set_cons_zero]
      refine wpS_store14 (i := 12) (v := .bool _) (L2 := [_, _, _]) (cs' := tlC S.self po (upd S.h f.toNat true) (upd S.k f.toNat r) (upd z f.toNat (.slice pr r.p.2.2.length cr))) rfl (by rfl) rfl rfl rfl rfl (by kernel_rfl) rfl HM28.out 0 rfl rfl (Nat.ble_eq_true_of_le (by rw [tlC_len]; show _ + 1 ≤ _; have := hf8.out; omega)) (tlC_setH (hf8.out) true)  rfl ?_
      rintro W30 hm29
      have HM31 := Lib.hid hm29
      clear hm29
      refine wpS_nil ?_
      refine bodyPost_end (results_none rfl _ _ _) rfl ?_
      refine does_ret (Mem.toTell (po := po) (l := l) (S := heardF S f r) ?_ (by rw [hc.out, hcc.out, hR.out]; exact (Mem.only (M := [_, _, _]) HM31.out [0, 2, 0] rfl))) rfl rfl
      rw [hc.out, hcc.out, hR.out]
      exact hz.out.upd _ hrR.out lr
    · have gh := hh
      obtain ⟨j, hj'⟩ : ∃ j, joinR (S.k f.toNat) r = j := ⟨_, rfl⟩
      have lj : Hid (j.p.2.2.length ≤ 1000) := Lib.hid (by rw [← hj']; exact joinR_len (hz.out f.toNat).2 lr)
      have hcc : Hid ((if S.h f.toNat = true then joinR (S.k f.toNat) r else r) = j) := Lib.hid ((if_pos hh).trans hj')
      have hj := Lib.hid hj'
      clear hj' hh
      refine wp_region_N [(0, 1), (1, 1), (2, 1), (3, 1), (4, 1), (5, 1)] (by kernel_rfl) ?_
      refine wpS_this [0, 1, 2, 3] rfl (by kernel_rfl) (by simp only [pickL, nthL, List.cons_append, List.nil_append]; rfl) ?_
      repeat (go_big_quiet_step (fail))
      refine wpQuiet_nil ?_
      refine wpS_read (i := 4) (d := some 26) rfl (by rfl) (run_addrHs (hn8.out) rfl rfl rfl) rfl ?_
      simp only [Act.put, List.setIfInBounds_toArray, List.set_cons_succ, List.set_cons_zero]
      refine wpS_load1 (i := 5) (d := some 27) (u := .bool _) rfl (by rfl) rfl rfl (HM22.out.sub1 2 rfl (tlC_h (hf8.out))) Try.underlying4 rfl rfl ?_
      simp only [Act.put, List.setIfInBounds_toArray, List.set_cons_succ, List.set_cons_zero]
      rw [gh]
      refine wpS_nil ?_
      refine then_normal ?_
      refine wp_cond_true rfl ?_
      refine wp_region_M (fun k => k ∈ ([b3, d] : List Nat)) [(0, 1), (1, 1), (2, 1), (3, 1), (4, 1), (5, 1), (6, 1), (7, 3), (8, 4)] (by kernel_rfl) (by kernel_rfl) HM22.out ?_
      intro W32 hm33
      have HM34 := Lib.hid hm33
      clear hm33
      refine wpS_this [0, 1, 2, 3] rfl (by kernel_rfl) (by simp only [pickL, nthL, List.cons_append, List.nil_append]; rfl) ?_
      repeat (go_big_quiet_step (fail))
      refine wpQuiet_nil ?_
      refine wpS_read (i := 4) (d := some 32) rfl (by rfl) (run_addrRg (hn8.out) rfl rfl rfl) rfl ?_
      simp only [Act.put, List.setIfInBounds_toArray, List.set_cons_succ, List.set_cons_zero]
      refine wpS_loadA (i := 5) (d := some 33) (cells := rgC (S.k f.toNat) (z f.toNat)) rfl (by rfl) rfl rfl (HM34.out.sub 2 rfl (tlC_k (hf8.out))) Try.underlying37 rfl (by kernel_rfl) rfl ?_
      simp only [Act.put, List.setIfInBounds_toArray, List.set_cons_succ, List.set_cons_zero]
      refine wpS_loadA (i := 6) (d := some 34) (cells := rgC (r) (.slice pr r.p.2.2.length cr)) rfl (by rfl) rfl rfl (HM34.out.sub 1 rfl (fun k u h => by rw [Nat.zero_add]; exact h)) Try.underlying37 rfl (by kernel_rfl) rfl ?_
      simp only [Act.put, List.setIfInBounds_toArray, List.set_cons_succ, List.set_cons_zero]
      refine wpS_doesU2 (i := 7) (d := some 35) (rem := [_, _, _]) rfl (by rfl) rfl Try.call32 (rjoinR_d R _ (S.k f.toNat) (hz.out f.toNat).1 (hz.out f.toNat).2 _ r hrR.out lr j hj.out) rfl rfl HM34.out [0] rfl (covS_box 0 rfl (covS_box 1 rfl covS_nil)) (fun _ => rfl) rfl ?_
      rintro u38 W36 hm35 hg37
      obtain ⟨pj, cj, rfl, hm35q⟩ := Mem.ring rfl hm35
      clear hm35
      have HM39 := Lib.hid hm35q
      clear hm35q
      simp only [Act.put, List.setIfInBounds_toArray, List.set_cons_succ, List.set_cons_zero]
      refine wpS_storeA4 (i := 8) (L2 := [_, _, _, _]) (cs' := rgC (j) (.slice pj j.p.2.2.length cj)) rfl (by rfl) rfl rfl rfl (by kernel_rfl) (rgC_one _ _ _) HM39.out 2 rfl rfl (by kernel_rfl) (by kernel_rfl)  rfl ?_
      rintro W42 hm41
      have HM43 := Lib.hid hm41
      clear hm41
      refine wpS_nil ?_
      refine then_normal ?_
      refine wp_region_M (fun k => k ∈ ([b3, d] : List Nat)) [(0, 1), (1, 1), (2, 0), (3, 0), (4, 1), (5, 1), (6, 1), (7, 1), (9, 0), (10, 0), (8, 4), (11, 1), (12, 4)] (by kernel_rfl) (by kernel_rfl) HM43.out ?_
      intro W44 hm45
      have HM46 := Lib.hid hm45
      clear hm45
      refine wpS_this [0, 1] rfl (by kernel_rfl) (by simp only [pickL, nthL, List.cons_append, List.nil_append]; rfl) ?_
      repeat (go_big_quiet_step (fail))
      refine wpQuiet_nil ?_
      refine wpS_all [2, 3] rfl (by kernel_rfl) (by simp only [pickL, nthL, List.cons_append, List.nil_append]; rfl) ?_
      repeat (go_big_quiet_step (fail))
      refine wpQuiet_nil ?_
      refine wpS_loadA (i := 4) (d := some 40) (cells := rgC (j) (.slice pj j.p.2.2.length cj)) rfl (by rfl) rfl rfl (HM46.out.sub 0 rfl (fun k u h => by rw [Nat.zero_add]; exact h)) Try.underlying37 rfl (by kernel_rfl) rfl ?_
      simp only [Act.put, List.setIfInBounds_toArray, List.set_cons_succ, List.set_cons_zero]
      refine wpS_this [5, 6] rfl (by kernel_rfl) (by simp only [pickL, nthL, List.cons_append, List.nil_append]; rfl) ?_
      repeat (go_big_quiet_step (fail))
      refine wpQuiet_nil ?_
      refine wpS_read (i := 7) (d := some 43) rfl (by rfl) (run_addrRg (hn8.out) rfl rfl rfl) rfl ?_
      simp only [Act.put, List.setIfInBounds_toArray, List.set_cons_succ, List.set_cons_zero]
      refine wpS_all [9, 10] rfl (by kernel_rfl) (by simp only [pickL, nthL, List.cons_append, List.nil_append]; rfl) ?_
      repeat (go_big_quiet_step (fail))
      refine wpQuiet_nil ?_
      refine wpS_storeA4 (i := 8) (L2 := [_, _, _, _]) (cs' := tlC S.self po S.h (upd S.k f.toNat j) (upd z f.toNat (.slice pj j.p.2.2.length cj))) rfl (by rfl) rfl rfl rfl (by kernel_rfl) (rgC_one _ _ _) HM46.out 3 rfl rfl (Nat.ble_eq_true_of_le (by rw [tlC_len]; show _ + 43 ≤ _; have := hf8.out; omega)) (tlC_setK (hf8.out) (j) (.slice pj j.p.2.2.length cj))  rfl ?_
      rintro W48 hm47
      have HM49 := Lib.hid hm47
      clear hm47
      refine wpS_read (i := 11) (d := some 46) rfl (by rfl) (run_addrHs (hn8.out) rfl rfl rfl) rfl ?_
      simp only [Act.put, List.setIfInBounds_toArray, List.set_cons_succ, List.set_cons_zero]
      refine wpS_store14 (i := 12) (v := .bool _) (L2 := [_, _, _, _]) (cs' := tlC S.self po (upd S.h f.toNat true) (upd S.k f.toNat j) (upd z f.toNat (.slice pj j.p.2.2.length cj))) rfl (by rfl) rfl rfl rfl rfl (by kernel_rfl) rfl HM49.out 0 rfl rfl (Nat.ble_eq_true_of_le (by rw [tlC_len]; show _ + 1 ≤ _; have := hf8.out; omega)) (tlC_setH (hf8.out) true)  rfl ?_
      rintro W51 hm50
      have HM52 := Lib.hid hm50
      clear hm50
      refine wpS_nil ?_
      refine bodyPost_end (results_none rfl _ _ _) rfl ?_
      refine does_ret (Mem.toTell (po := po) (l := rowT elemI _ _ :: l) (S := heardF S f r) ?_ (by rw [hc.out, hcc.out]; exact Mem.only (M := [_, _, _]) (Mem.into (B := B) (l := l) (by rw [hR.out]; exact (Mem.only (M := [_, _, _, _]) HM52.out [2, 2, 0, 1] rfl))) [1, 1, 0] rfl)) rfl rfl
      rw [hc.out, hcc.out]
      exact KnowsOf.upd (KnowsOf.add (by rw [hR.out]; exact hz.out)) _ (reads_new rowT_reads) lj.out

end Go.Proofs.Ytnkchmafofpimaa
