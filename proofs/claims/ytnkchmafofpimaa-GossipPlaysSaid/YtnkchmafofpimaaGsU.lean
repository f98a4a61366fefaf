/- The reference's teller: Turn. -/
import Derived.Test.YtnkchmafofpimaaGsB
namespace Go.Proofs.Ytnkchmafofpimaa
open Go Go.RowKit Go.BigFrame

theorem left_sub {rest P : List Int} {draw : Int} (h8 : P.length ≤ 64) : ∀ x ∈ leftNow rest P draw, x ∈ P := fun x hx => by
  unfold leftNow at hx
  split at hx
  · exact (shuf_mem h8 draw).subset hx
  · rename_i y r e
    rw [← e, List.mem_filter] at hx
    exact List.contains_iff_mem.1 hx.2
theorem next_lt (S : Tl) (peers : List Int) (draw : Int) {n : Int} (h : (turnO S peers draw).1 = n) : n < 8 := by
  subst h
  unfold turnO nextOf
  split
  · exact (by decide : (-1 : Int) < 8)
  · rename_i hne
    obtain ⟨x, r, hx⟩ := round_head (rest := S.o) (draw := draw) hne
    have hp := peersOf_len peers S.self
    have hm := left_sub (P := peersOf peers S.self) (by omega) x (by rw [hx]; exact List.mem_cons_self)
    rw [hx]
    exact (peersOf_mem.1 hm).1.2
set_option maxHeartbeats 4000000 in
set_option maxRecDepth 100000 in
theorem rturn_d (d : Nat) (S : Tl) (B : At) (vr : Value) (r : Rg) (hr : Reads elemI B vr r.p.2.2) (lr : r.p.2.2.length ≤ 1000) (vp : Value) (peers : List Int) (hp : Reads elemI B vp peers) (hpl : peers.length ≤ 1000) (draw : Int) (h0 : 0 ≤ draw) (h1 : draw < 18446744073709551616) : Does Try.prog 13 #[.pointer (some ⟨d, 0, none⟩), rgV r vr, vp, .int .u64 draw] [tellT d S B] (.int .i64 (turnA S r peers draw)) [tellT d (turnT S peers draw) B] := by
  intro w H hp
  have HM0 := Lib.hid (mem_refl hp)
  clear hp
  obtain ⟨po, z, l, hz', HMt⟩ := Mem.tell HM0.out
  clear HM0
  have HM0 := Lib.hid HMt
  clear HMt
  have hz := Lib.hid hz'
  clear hz'
  obtain ⟨R, hR⟩ : ∃ R, listT (B :: l) = R := ⟨_, rfl⟩
  rw [hR] at hz HM0
  replace hR := Lib.hid hR
  have hrR : Hid (Reads elemI R vr r.p.2.2) := Lib.hid (by rw [← hR.out]; exact reads_first hr)
  have hpR : Hid (∀ W H, R.p W H → RowAt elemI W vp peers) := Lib.hid (by rw [← hR.out]; exact fun W H h => rowAt_src (reads_first hp W H h))
  obtain ⟨pr, cr, rfl⟩ := row_form (Mem.src HM0.out 2 rfl hrR.out)
  clear hr hp
  obtain ⟨n, hn'⟩ : ∃ n, (turnO S peers draw).1 = n := ⟨_, rfl⟩
  have hN : Hid (Does Try.prog 29 #[.pointer (some ⟨po, 0, none⟩), vp, .int .u64 draw] [R, roT po S.self S.o] (.int .i64 n) [R, roT po S.self (turnO S peers draw).2]) := Lib.hid (by have h := rnext_d po S.self S.o peers draw R vp hpR.out hpl h0 h1; rw [show (nextOf S.self S.o peers draw).1 = n from hn'] at h; exact h)
  have hn := Lib.hid hn'
  clear hn'
  have hlt := Lib.hid (next_lt S peers draw hn.out)
  clear h0 h1
  go_enter Try.func13, Try.ntmps13
  refine wp_seq ?_
  refine wp_region_N [(0, 3), (1, 1)] (by kernel_rfl) ?_
  refine wpS_boxA (i := 0) (dd := 5) rfl (by rfl) rfl rfl HM0.out covS_nil rfl ?_
  rintro b3 W2 hm1 -
  have HM4 := Lib.hid hm1
  clear hm1
  simp only [Act.put, List.setIfInBounds_toArray, List.set_cons_succ, List.set_cons_zero]
  refine wpS_this [1] rfl (by kernel_rfl) (by simp only [pickL, nthL, List.cons_append, List.nil_append]; rfl) ?_
  repeat (go_big_quiet_step (fail))
  refine wpQuiet_nil ?_
  refine wpS_nil ?_
  refine then_normal ?_
  refine wp_seq ?_
  refine wp_region_N [(0, 1), (1, 1), (2, 1), (3, 1), (4, 1), (5, 1), (6, 3), (7, 1)] (by kernel_rfl) ?_
  refine wpS_this [0, 1, 2] rfl (by kernel_rfl) (by simp only [pickL, nthL, List.cons_append, List.nil_append]; rfl) ?_
  repeat (go_big_quiet_step (fail))
  refine wpQuiet_nil ?_
  refine wpS_load1 (i := 3) (d := some 13) (u := .pointer (some ⟨po, 0, none⟩)) rfl (by rfl) rfl rfl (HM4.out.sub1 1 rfl rfl) Try.underlying46 rfl rfl ?_
  simp only [Act.put, List.setIfInBounds_toArray, List.set_cons_succ, List.set_cons_zero]
  refine wpS_this [4, 5] rfl (by kernel_rfl) (by simp only [pickL, nthL, List.cons_append, List.nil_append]; rfl) ?_
  repeat (go_big_quiet_step (fail))
  refine wpQuiet_nil ?_
  refine wpS_does3 (i := 6) (d := some 16) (rem := [_, _]) (out := [_, _, _, _]) rfl (by rfl) rfl Try.call29 (hN.out) rfl rfl rfl HM4.out [3, 2] rfl covS_nil rfl rfl ?_
  rintro W6 hm5 -
  have HM7 := Lib.hid hm5
  clear hm5
  simp only [Act.put, List.setIfInBounds_toArray, List.set_cons_succ, List.set_cons_zero]
  refine wpS_this [7] rfl (by kernel_rfl) (by simp only [pickL, nthL, List.cons_append, List.nil_append]; rfl) ?_
  repeat (go_big_quiet_step (fail))
  refine wpQuiet_nil ?_
  refine wpS_nil ?_
  refine then_normal ?_
  refine wp_seq ?_
  refine wp_seq ?_
  rcases (show n < 0 ∨ (¬ n < 0 ∧ S.h n.toNat = false) ∨ (¬ n < 0 ∧ S.h n.toNat = true ∧ belowR r (S.k n.toNat) = true) ∨ (¬ n < 0 ∧ S.h n.toNat = true ∧ belowR r (S.k n.toNat) ≠ true) from by by_cases k1 : n < 0 <;> cases k2 : S.h n.toNat <;> by_cases k3 : belowR r (S.k n.toNat) = true <;> simp [k1, k3]) with h1 | ⟨h1, h2⟩ | ⟨h1, h2, h3⟩ | ⟨h1, h2, h3⟩
  · have gl := decide_eq_true h1
    have hq : Hid (turnA S r peers draw = -1) := Lib.hid (by unfold turnA quietB; rw [hn.out, decide_eq_true h1]; rfl)
    clear h1
    refine wp_region_M (fun k => k ∈ ([b3, d] : List Nat)) [(0, 1), (1, 1), (2, 1), (3, 1), (4, 1), (5, 1), (6, 1), (7, 1), (8, 1), (9, 1), (10, 1), (11, 1), (12, 1), (13, 1), (14, 1), (15, 1), (16, 1), (17, 3), (18, 1), (19, 1)] (by kernel_rfl) (by kernel_rfl) HM7.out ?_
    intro W8 hm9
    have HM10 := Lib.hid hm9
    clear hm9
    refine wpS_this [0, 1, 2, 3, 4, 5, 6] rfl (by kernel_rfl) (by simp only [pickL, nthL, List.cons_append, List.nil_append]; rfl) ?_
    repeat (go_big_quiet_step (fail))
    refine wpQuiet_nil ?_
    refine wpS_skip (i := 7) (d := some 24) rfl (by rfl) rfl ?_
    simp only [Act.put, List.setIfInBounds_toArray, List.set_cons_succ, List.set_cons_zero]
    refine wpS_skip (i := 8) (d := some 25) rfl (by rfl) rfl ?_
    simp only [Act.put, List.setIfInBounds_toArray, List.set_cons_succ, List.set_cons_zero]
    refine wpS_this [9] rfl (by kernel_rfl) (by simp only [pickL, nthL, List.cons_append, List.nil_append]; rfl) ?_
    repeat (go_big_quiet_step (fail))
    refine wpQuiet_nil ?_
    refine wpS_skip (i := 10) (d := some 27) rfl (by rfl) rfl ?_
    simp only [Act.put, List.setIfInBounds_toArray, List.set_cons_succ, List.set_cons_zero]
    refine wpS_this [11, 12, 13, 14] rfl (by kernel_rfl) (by simp only [pickL, nthL, List.cons_append, List.nil_append]; rfl) ?_
    repeat (go_big_quiet_step (fail))
    refine wpQuiet_nil ?_
    refine wpS_skip (i := 15) (d := some 32) rfl (by rfl) rfl ?_
    simp only [Act.put, List.setIfInBounds_toArray, List.set_cons_succ, List.set_cons_zero]
    refine wpS_skip (i := 16) (d := some 33) rfl (by rfl) rfl ?_
    simp only [Act.put, List.setIfInBounds_toArray, List.set_cons_succ, List.set_cons_zero]
    refine wpS_skip (i := 17) (d := some 34) rfl (by rfl) rfl ?_
    simp only [Act.put, List.setIfInBounds_toArray, List.set_cons_succ, List.set_cons_zero]
    refine wpS_this [18, 19] rfl (by kernel_rfl) (by simp only [pickL, nthL, List.cons_append, List.nil_append]; rfl) ?_
    repeat (go_big_quiet_step (fail))
    refine wpQuiet_nil ?_
    refine wpS_nil ?_
    refine then_normal ?_
    refine wp_cond_true rfl ?_
    refine wp_seq ?_
    refine wp_region_N [(0, 1)] (by kernel_rfl) ?_
    refine wpS_this [0] rfl (by kernel_rfl) (by simp only [pickL, nthL, List.cons_append, List.nil_append]; rfl) ?_
    repeat (go_big_quiet_step (fail))
    refine wpQuiet_nil ?_
    refine wpS_nil ?_
    refine then_normal ?_
    refine wp_ret ?_
    refine then_ret ?_
    refine bodyPost_ret (results_tmp rfl _ _ _) rfl ?_
    refine does_ret (Mem.toTell (po := po) (z := z) (l := l) (S := turnT S peers draw) (by rw [hR.out]; exact hz.out) (by rw [hR.out]; exact (Mem.only (M := [_, _, _]) HM10.out [3, 1, 0] rfl))) (congrArg (Value.int .i64) hq.out).symm rfl
  · have gl := decide_eq_false h1
    have hn8 : Hid (0 ≤ n ∧ n < 8) := Lib.hid ⟨by omega, hlt.out⟩
    have hi8 : Hid (n.toNat < 8) := Lib.hid (by have := hlt.out; omega)
    have gh := h2
    have hq : Hid (turnA S r peers draw = n) := Lib.hid (by unfold turnA quietB; rw [hn.out, decide_eq_false h1, h2]; rfl)
    clear h1 h2
    refine wp_region_M (fun k => k ∈ ([b3, d] : List Nat)) [(0, 1), (1, 1), (2, 1), (3, 1), (4, 1), (5, 1), (6, 1), (7, 1), (8, 1), (9, 1), (10, 1), (11, 1), (12, 1), (13, 1), (14, 1), (15, 1), (16, 1), (17, 3), (18, 1), (19, 1)] (by kernel_rfl) (by kernel_rfl) HM7.out ?_
    intro W11 hm12
    have HM13 := Lib.hid hm12
    clear hm12
    refine wpS_this [0, 1, 2, 3, 4, 5, 6] rfl (by kernel_rfl) (by simp only [pickL, nthL, List.cons_append, List.nil_append]; rfl) ?_
    repeat (go_big_quiet_step (fail))
    refine wpQuiet_nil ?_
    refine wpS_read (i := 7) (d := some 24) rfl (by rfl) (run_addrHs (hn8.out) rfl rfl rfl) rfl ?_
    simp only [Act.put, List.setIfInBounds_toArray, List.set_cons_succ, List.set_cons_zero]
    refine wpS_load1 (i := 8) (d := some 25) (u := .bool _) rfl (by rfl) rfl rfl (HM13.out.sub1 3 rfl (tlC_h (hi8.out))) Try.underlying4 rfl rfl ?_
    simp only [Act.put, List.setIfInBounds_toArray, List.set_cons_succ, List.set_cons_zero]
    rw [gh]
    refine wpS_this [9] rfl (by kernel_rfl) (by simp only [pickL, nthL, List.cons_append, List.nil_append]; rfl) ?_
    repeat (go_big_quiet_step (fail))
    refine wpQuiet_nil ?_
    refine wpS_skip (i := 10) (d := some 27) rfl (by rfl) rfl ?_
    simp only [Act.put, List.setIfInBounds_toArray, List.set_cons_succ, List.set_cons_zero]
    refine wpS_this [11, 12, 13, 14] rfl (by kernel_rfl) (by simp only [pickL, nthL, List.cons_append, List.nil_append]; rfl) ?_
    repeat (go_big_quiet_step (fail))
    refine wpQuiet_nil ?_
    refine wpS_skip (i := 15) (d := some 32) rfl (by rfl) rfl ?_
    simp only [Act.put, List.setIfInBounds_toArray, List.set_cons_succ, List.set_cons_zero]
    refine wpS_skip (i := 16) (d := some 33) rfl (by rfl) rfl ?_
    simp only [Act.put, List.setIfInBounds_toArray, List.set_cons_succ, List.set_cons_zero]
    refine wpS_skip (i := 17) (d := some 34) rfl (by rfl) rfl ?_
    simp only [Act.put, List.setIfInBounds_toArray, List.set_cons_succ, List.set_cons_zero]
    refine wpS_this [18, 19] rfl (by kernel_rfl) (by simp only [pickL, nthL, List.cons_append, List.nil_append]; rfl) ?_
    repeat (go_big_quiet_step (fail))
    refine wpQuiet_nil ?_
    refine wpS_nil ?_
    refine then_normal ?_
    refine wp_cond_false rfl ?_
    refine wp_skip ?_
    refine then_normal ?_
    refine wp_seq ?_
    refine wp_region_N [(0, 1), (1, 1)] (by kernel_rfl) ?_
    refine wpS_this [0, 1] rfl (by kernel_rfl) (by simp only [pickL, nthL, List.cons_append, List.nil_append]; rfl) ?_
    repeat (go_big_quiet_step (fail))
    refine wpQuiet_nil ?_
    refine wpS_nil ?_
    refine then_normal ?_
    refine wp_ret ?_
    refine bodyPost_ret (results_tmp rfl _ _ _) rfl ?_
    refine does_ret (Mem.toTell (po := po) (z := z) (l := l) (S := turnT S peers draw) (by rw [hR.out]; exact hz.out) (by rw [hR.out]; exact (Mem.only (M := [_, _, _]) HM13.out [3, 1, 0] rfl))) (congrArg (Value.int .i64) hq.out).symm rfl
  · have gl := decide_eq_false h1
    have hn8 : Hid (0 ≤ n ∧ n < 8) := Lib.hid ⟨by omega, hlt.out⟩
    have hi8 : Hid (n.toNat < 8) := Lib.hid (by have := hlt.out; omega)
    have gh := h2
    have gb := h3
    have hq : Hid (turnA S r peers draw = -1) := Lib.hid (by unfold turnA quietB; rw [hn.out, decide_eq_false h1, h2, h3]; rfl)
    clear h1 h2 h3
    refine wp_region_M (fun k => k ∈ ([b3, d] : List Nat)) [(0, 1), (1, 1), (2, 1), (3, 1), (4, 1), (5, 1), (6, 1), (7, 1), (8, 1), (9, 1), (10, 1), (11, 1), (12, 1), (13, 1), (14, 1), (15, 1), (16, 1), (17, 3), (18, 1), (19, 1)] (by kernel_rfl) (by kernel_rfl) HM7.out ?_
    intro W14 hm15
    have HM16 := Lib.hid hm15
    clear hm15
    refine wpS_this [0, 1, 2, 3, 4, 5, 6] rfl (by kernel_rfl) (by simp only [pickL, nthL, List.cons_append, List.nil_append]; rfl) ?_
    repeat (go_big_quiet_step (fail))
    refine wpQuiet_nil ?_
    refine wpS_read (i := 7) (d := some 24) rfl (by rfl) (run_addrHs (hn8.out) rfl rfl rfl) rfl ?_
    simp only [Act.put, List.setIfInBounds_toArray, List.set_cons_succ, List.set_cons_zero]
    refine wpS_load1 (i := 8) (d := some 25) (u := .bool _) rfl (by rfl) rfl rfl (HM16.out.sub1 3 rfl (tlC_h (hi8.out))) Try.underlying4 rfl rfl ?_
    simp only [Act.put, List.setIfInBounds_toArray, List.set_cons_succ, List.set_cons_zero]
    rw [gh]
    refine wpS_this [9] rfl (by kernel_rfl) (by simp only [pickL, nthL, List.cons_append, List.nil_append]; rfl) ?_
    repeat (go_big_quiet_step (fail))
    refine wpQuiet_nil ?_
    refine wpS_loadA (i := 10) (d := some 27) (cells := rgC (r) (.slice pr r.p.2.2.length cr)) rfl (by rfl) rfl rfl (HM16.out.sub 2 rfl (fun k u h => by rw [Nat.zero_add]; exact h)) Try.underlying37 rfl (by kernel_rfl) rfl ?_
    simp only [Act.put, List.setIfInBounds_toArray, List.set_cons_succ, List.set_cons_zero]
    refine wpS_this [11, 12, 13, 14] rfl (by kernel_rfl) (by simp only [pickL, nthL, List.cons_append, List.nil_append]; rfl) ?_
    repeat (go_big_quiet_step (fail))
    refine wpQuiet_nil ?_
    refine wpS_read (i := 15) (d := some 32) rfl (by rfl) (run_addrRg (hn8.out) rfl rfl rfl) rfl ?_
    simp only [Act.put, List.setIfInBounds_toArray, List.set_cons_succ, List.set_cons_zero]
    refine wpS_loadA (i := 16) (d := some 33) (cells := rgC (S.k n.toNat) (z n.toNat)) rfl (by rfl) rfl rfl (HM16.out.sub 3 rfl (tlC_k (hi8.out))) Try.underlying37 rfl (by kernel_rfl) rfl ?_
    simp only [Act.put, List.setIfInBounds_toArray, List.set_cons_succ, List.set_cons_zero]
    refine wpS_does2 (i := 17) (d := some 34) (rem := [_, _, _]) (out := [_, _, _, _]) rfl (by rfl) rfl Try.call30 (rbelowR_d R _ r hrR.out lr _ (S.k n.toNat) (hz.out n.toNat).1 (hz.out n.toNat).2) rfl rfl HM16.out [0] rfl (covS_box 1 rfl (covS_box 2 rfl covS_nil)) rfl rfl ?_
    rintro W18 hm17 hg19
    have HM20 := Lib.hid hm17
    clear hm17
    simp only [Act.put, List.setIfInBounds_toArray, List.set_cons_succ, List.set_cons_zero]
    refine wpS_this [18, 19] rfl (by kernel_rfl) (by simp only [pickL, nthL, List.cons_append, List.nil_append]; rfl) ?_
    repeat (go_big_quiet_step (fail))
    refine wpQuiet_nil ?_
    refine wpS_nil ?_
    refine then_normal ?_
    refine wp_cond_true rfl ?_
    refine wp_seq ?_
    refine wp_region_N [(0, 1)] (by kernel_rfl) ?_
    refine wpS_this [0] rfl (by kernel_rfl) (by simp only [pickL, nthL, List.cons_append, List.nil_append]; rfl) ?_
    repeat (go_big_quiet_step (fail))
    refine wpQuiet_nil ?_
    refine wpS_nil ?_
    refine then_normal ?_
    refine wp_ret ?_
    refine then_ret ?_
    refine bodyPost_ret (results_tmp rfl _ _ _) rfl ?_
    refine does_ret (Mem.toTell (po := po) (z := z) (l := l) (S := turnT S peers draw) (by rw [hR.out]; exact hz.out) (by rw [hR.out]; exact (Mem.only (M := [_, _, _]) HM20.out [3, 1, 0] rfl))) (congrArg (Value.int .i64) hq.out).symm rfl
  · have gl := decide_eq_false h1
    have hn8 : Hid (0 ≤ n ∧ n < 8) := Lib.hid ⟨by omega, hlt.out⟩
    have hi8 : Hid (n.toNat < 8) := Lib.hid (by have := hlt.out; omega)
    have gh := h2
    have gb := Bool.eq_false_iff.2 h3
    have hq : Hid (turnA S r peers draw = n) := Lib.hid (by unfold turnA quietB; rw [hn.out, decide_eq_false h1, h2, Bool.eq_false_iff.2 h3]; rfl)
    clear h1 h2 h3
    refine wp_region_M (fun k => k ∈ ([b3, d] : List Nat)) [(0, 1), (1, 1), (2, 1), (3, 1), (4, 1), (5, 1), (6, 1), (7, 1), (8, 1), (9, 1), (10, 1), (11, 1), (12, 1), (13, 1), (14, 1), (15, 1), (16, 1), (17, 3), (18, 1), (19, 1)] (by kernel_rfl) (by kernel_rfl) HM7.out ?_
    intro W21 hm22
    have HM23 := Lib.hid hm22
    clear hm22
    refine wpS_this [0, 1, 2, 3, 4, 5, 6] rfl (by kernel_rfl) (by simp only [pickL, nthL, List.cons_append, List.nil_append]; rfl) ?_
    repeat (go_big_quiet_step (fail))
    refine wpQuiet_nil ?_
    refine wpS_read (i := 7) (d := some 24) rfl (by rfl) (run_addrHs (hn8.out) rfl rfl rfl) rfl ?_
    simp only [Act.put, List.setIfInBounds_toArray, List.set_cons_succ, List.set_cons_zero]
    refine wpS_load1 (i := 8) (d := some 25) (u := .bool _) rfl (by rfl) rfl rfl (HM23.out.sub1 3 rfl (tlC_h (hi8.out))) Try.underlying4 rfl rfl ?_
    simp only [Act.put, List.setIfInBounds_toArray, List.set_cons_succ, List.set_cons_zero]
    rw [gh]
    refine wpS_this [9] rfl (by kernel_rfl) (by simp only [pickL, nthL, List.cons_append, List.nil_append]; rfl) ?_
    repeat (go_big_quiet_step (fail))
    refine wpQuiet_nil ?_
    refine wpS_loadA (i := 10) (d := some 27) (cells := rgC (r) (.slice pr r.p.2.2.length cr)) rfl (by rfl) rfl rfl (HM23.out.sub 2 rfl (fun k u h => by rw [Nat.zero_add]; exact h)) Try.underlying37 rfl (by kernel_rfl) rfl ?_
    simp only [Act.put, List.setIfInBounds_toArray, List.set_cons_succ, List.set_cons_zero]
    refine wpS_this [11, 12, 13, 14] rfl (by kernel_rfl) (by simp only [pickL, nthL, List.cons_append, List.nil_append]; rfl) ?_
    repeat (go_big_quiet_step (fail))
    refine wpQuiet_nil ?_
    refine wpS_read (i := 15) (d := some 32) rfl (by rfl) (run_addrRg (hn8.out) rfl rfl rfl) rfl ?_
    simp only [Act.put, List.setIfInBounds_toArray, List.set_cons_succ, List.set_cons_zero]
    refine wpS_loadA (i := 16) (d := some 33) (cells := rgC (S.k n.toNat) (z n.toNat)) rfl (by rfl) rfl rfl (HM23.out.sub 3 rfl (tlC_k (hi8.out))) Try.underlying37 rfl (by kernel_rfl) rfl ?_
    simp only [Act.put, List.setIfInBounds_toArray, List.set_cons_succ, List.set_cons_zero]
    refine wpS_does2 (i := 17) (d := some 34) (rem := [_, _, _]) (out := [_, _, _, _]) rfl (by rfl) rfl Try.call30 (rbelowR_d R _ r hrR.out lr _ (S.k n.toNat) (hz.out n.toNat).1 (hz.out n.toNat).2) rfl rfl HM23.out [0] rfl (covS_box 1 rfl (covS_box 2 rfl covS_nil)) rfl rfl ?_
    rintro W25 hm24 hg26
    have HM27 := Lib.hid hm24
    clear hm24
    simp only [Act.put, List.setIfInBounds_toArray, List.set_cons_succ, List.set_cons_zero]
    refine wpS_this [18, 19] rfl (by kernel_rfl) (by simp only [pickL, nthL, List.cons_append, List.nil_append]; rfl) ?_
    repeat (go_big_quiet_step (fail))
    refine wpQuiet_nil ?_
    refine wpS_nil ?_
    refine then_normal ?_
    refine wp_cond_false rfl ?_
    refine wp_skip ?_
    refine then_normal ?_
    refine wp_seq ?_
    refine wp_region_N [(0, 1), (1, 1)] (by kernel_rfl) ?_
    refine wpS_this [0, 1] rfl (by kernel_rfl) (by simp only [pickL, nthL, List.cons_append, List.nil_append]; rfl) ?_
    repeat (go_big_quiet_step (fail))
    refine wpQuiet_nil ?_
    refine wpS_nil ?_
    refine then_normal ?_
    refine wp_ret ?_
    refine bodyPost_ret (results_tmp rfl _ _ _) rfl ?_
    refine does_ret (Mem.toTell (po := po) (z := z) (l := l) (S := turnT S peers draw) (by rw [hR.out]; exact hz.out) (by rw [hR.out]; exact (Mem.only (M := [_, _, _]) HM27.out [3, 1, 0] rfl))) (congrArg (Value.int .i64) hq.out).symm rfl

set_option maxHeartbeats 4000000 in
set_option maxRecDepth 100000 in
theorem rturnR_d (d po : Nat) (S : Tl) (z : Nat → Value) (R : At) (hz' : KnowsOf R S.k z) (vr : Value) (r : Rg) (hr : Reads elemI R vr r.p.2.2) (lr : r.p.2.2.length ≤ 1000) (vp : Value) (peers : List Int) (hp : Reads elemI R vp peers) (hpl : peers.length ≤ 1000) (draw : Int) (h0 : 0 ≤ draw) (h1 : draw < 18446744073709551616) : Does Try.prog 13 #[.pointer (some ⟨d, 0, none⟩), rgV r vr, vp, .int .u64 draw] [tlT d S.self po S.h S.k z, roT po S.self S.o, R] (.int .i64 (turnA S r peers draw)) [tlT d S.self po S.h S.k z, roT po S.self (turnO S peers draw).2, R] := by
  intro w H hp
  have HM0 := Lib.hid (mem_refl hp)
  clear hp
  have hz := Lib.hid hz'
  clear hz'
  have hrR : Hid (Reads elemI R vr r.p.2.2) := Lib.hid hr
  have hpR : Hid (∀ W H, R.p W H → RowAt elemI W vp peers) := Lib.hid (fun W H h => rowAt_src (hp W H h))
  obtain ⟨pr, cr, rfl⟩ := row_form (Mem.src HM0.out 2 rfl hrR.out)
  clear hr hp
  obtain ⟨n, hn'⟩ : ∃ n, (turnO S peers draw).1 = n := ⟨_, rfl⟩
  have hN : Hid (Does Try.prog 29 #[.pointer (some ⟨po, 0, none⟩), vp, .int .u64 draw] [R, roT po S.self S.o] (.int .i64 n) [R, roT po S.self (turnO S peers draw).2]) := Lib.hid (by have h := rnext_d po S.self S.o peers draw R vp hpR.out hpl h0 h1; rw [show (nextOf S.self S.o peers draw).1 = n from hn'] at h; exact h)
  have hn := Lib.hid hn'
  clear hn'
  have hlt := Lib.hid (next_lt S peers draw hn.out)
  clear h0 h1
  go_enter Try.func13, Try.ntmps13
  refine wp_seq ?_
  refine wp_region_N [(0, 3), (1, 1)] (by kernel_rfl) ?_
  refine wpS_boxA (i := 0) (dd := 5) rfl (by rfl) rfl rfl HM0.out covS_nil rfl ?_
  rintro b3 W2 hm1 -
  have HM4 := Lib.hid hm1
  clear hm1
  simp only [Act.put, List.setIfInBounds_toArray, List.set_cons_succ, List.set_cons_zero]
  refine wpS_this [1] rfl (by kernel_rfl) (by simp only [pickL, nthL, List.cons_append, List.nil_append]; rfl) ?_
  repeat (go_big_quiet_step (fail))
  refine wpQuiet_nil ?_
  refine wpS_nil ?_
  refine then_normal ?_
  refine wp_seq ?_
  refine wp_region_N [(0, 1), (1, 1), (2, 1), (3, 1), (4, 1), (5, 1), (6, 3), (7, 1)] (by kernel_rfl) ?_
  refine wpS_this [0, 1, 2] rfl (by kernel_rfl) (by simp only [pickL, nthL, List.cons_append, List.nil_append]; rfl) ?_
  repeat (go_big_quiet_step (fail))
  refine wpQuiet_nil ?_
  refine wpS_load1 (i := 3) (d := some 13) (u := .pointer (some ⟨po, 0, none⟩)) rfl (by rfl) rfl rfl (HM4.out.sub1 1 rfl rfl) Try.underlying46 rfl rfl ?_
  simp only [Act.put, List.setIfInBounds_toArray, List.set_cons_succ, List.set_cons_zero]
  refine wpS_this [4, 5] rfl (by kernel_rfl) (by simp only [pickL, nthL, List.cons_append, List.nil_append]; rfl) ?_
  repeat (go_big_quiet_step (fail))
  refine wpQuiet_nil ?_
  refine wpS_does3 (i := 6) (d := some 16) (rem := [_, _]) (out := [_, _, _, _]) rfl (by rfl) rfl Try.call29 (hN.out) rfl rfl rfl HM4.out [3, 2] rfl covS_nil rfl rfl ?_
  rintro W6 hm5 -
  have HM7 := Lib.hid hm5
  clear hm5
  simp only [Act.put, List.setIfInBounds_toArray, List.set_cons_succ, List.set_cons_zero]
  refine wpS_this [7] rfl (by kernel_rfl) (by simp only [pickL, nthL, List.cons_append, List.nil_append]; rfl) ?_
  repeat (go_big_quiet_step (fail))
  refine wpQuiet_nil ?_
  refine wpS_nil ?_
  refine then_normal ?_
  refine wp_seq ?_
  refine wp_seq ?_
  rcases (show n < 0 ∨ (¬ n < 0 ∧ S.h n.toNat = false) ∨ (¬ n < 0 ∧ S.h n.toNat = true ∧ belowR r (S.k n.toNat) = true) ∨ (¬ n < 0 ∧ S.h n.toNat = true ∧ belowR r (S.k n.toNat) ≠ true) from by by_cases k1 : n < 0 <;> cases k2 : S.h n.toNat <;> by_cases k3 : belowR r (S.k n.toNat) = true <;> simp [k1, k3]) with h1 | ⟨h1, h2⟩ | ⟨h1, h2, h3⟩ | ⟨h1, h2, h3⟩
  · have gl := decide_eq_true h1
    have hq : Hid (turnA S r peers draw = -1) := Lib.hid (by unfold turnA quietB; rw [hn.out, decide_eq_true h1]; rfl)
    clear h1
    refine wp_region_M (fun k => k ∈ ([b3, d] : List Nat)) [(0, 1), (1, 1), (2, 1), (3, 1), (4, 1), (5, 1), (6, 1), (7, 1), (8, 1), (9, 1), (10, 1), (11, 1), (12, 1), (13, 1), (14, 1), (15, 1), (16, 1), (17, 3), (18, 1), (19, 1)] (by kernel_rfl) (by kernel_rfl) HM7.out ?_
    intro W8 hm9
    have HM10 := Lib.hid hm9
    clear hm9
    refine wpS_this [0, 1, 2, 3, 4, 5, 6] rfl (by kernel_rfl) (by simp only [pickL, nthL, List.cons_append, List.nil_append]; rfl) ?_
    repeat (go_big_quiet_step (fail))
    refine wpQuiet_nil ?_
    refine wpS_skip (i := 7) (d := some 24) rfl (by rfl) rfl ?_
    simp only [Act.put, List.setIfInBounds_toArray, List.set_cons_succ, List.set_cons_zero]
    refine wpS_skip (i := 8) (d := some 25) rfl (by rfl) rfl ?_
    simp only [Act.put, List.setIfInBounds_toArray, List.set_cons_succ, List.set_cons_zero]
    refine wpS_this [9] rfl (by kernel_rfl) (by simp only [pickL, nthL, List.cons_append, List.nil_append]; rfl) ?_
    repeat (go_big_quiet_step (fail))
    refine wpQuiet_nil ?_
    refine wpS_skip (i := 10) (d := some 27) rfl (by rfl) rfl ?_
    simp only [Act.put, List.setIfInBounds_toArray, List.set_cons_succ, List.set_cons_zero]
    refine wpS_this [11, 12, 13, 14] rfl (by kernel_rfl) (by simp only [pickL, nthL, List.cons_append, List.nil_append]; rfl) ?_
    repeat (go_big_quiet_step (fail))
    refine wpQuiet_nil ?_
    refine wpS_skip (i := 15) (d := some 32) rfl (by rfl) rfl ?_
    simp only [Act.put, List.setIfInBounds_toArray, List.set_cons_succ, List.set_cons_zero]
    refine wpS_skip (i := 16) (d := some 33) rfl (by rfl) rfl ?_
    simp only [Act.put, List.setIfInBounds_toArray, List.set_cons_succ, List.set_cons_zero]
    refine wpS_skip (i := 17) (d := some 34) rfl (by rfl) rfl ?_
    simp only [Act.put, List.setIfInBounds_toArray, List.set_cons_succ, List.set_cons_zero]
    refine wpS_this [18, 19] rfl (by kernel_rfl) (by simp only [pickL, nthL, List.cons_append, List.nil_append]; rfl) ?_
    repeat (go_big_quiet_step (fail))
    refine wpQuiet_nil ?_
    refine wpS_nil ?_
    refine then_normal ?_
    refine wp_cond_true rfl ?_
    refine wp_seq ?_
    refine wp_region_N [(0, 1)] (by kernel_rfl) ?_
    refine wpS_this [0] rfl (by kernel_rfl) (by simp only [pickL, nthL, List.cons_append, List.nil_append]; rfl) ?_
    repeat (go_big_quiet_step (fail))
    refine wpQuiet_nil ?_
    refine wpS_nil ?_
    refine then_normal ?_
    refine wp_ret ?_
    refine then_ret ?_
    refine bodyPost_ret (results_tmp rfl _ _ _) rfl ?_
    exact does_ret (Mem.only (M := [_, _, _]) HM10.out [3, 1, 0] rfl) (congrArg (Value.int .i64) hq.out).symm rfl
  · have gl := decide_eq_false h1
    have hn8 : Hid (0 ≤ n ∧ n < 8) := Lib.hid ⟨by omega, hlt.out⟩
    have hi8 : Hid (n.toNat < 8) := Lib.hid (by have := hlt.out; omega)
    have gh := h2
    have hq : Hid (turnA S r peers draw = n) := Lib.hid (by unfold turnA quietB; rw [hn.out, decide_eq_false h1, h2]; rfl)
    clear h1 h2
    refine wp_region_M (fun k => k ∈ ([b3, d] : List Nat)) [(0, 1), (1, 1), (2, 1), (3, 1), (4, 1), (5, 1), (6, 1), (7, 1), (8, 1), (9, 1), (10, 1), (11, 1), (12, 1), (13, 1), (14, 1), (15, 1), (16, 1), (17, 3), (18, 1), (19, 1)] (by kernel_rfl) (by kernel_rfl) HM7.out ?_
    intro W11 hm12
    have HM13 := Lib.hid hm12
    clear hm12
    refine wpS_this [0, 1, 2, 3, 4, 5, 6] rfl (by kernel_rfl) (by simp only [pickL, nthL, List.cons_append, List.nil_append]; rfl) ?_
    repeat (go_big_quiet_step (fail))
    refine wpQuiet_nil ?_
    refine wpS_read (i := 7) (d := some 24) rfl (by rfl) (run_addrHs (hn8.out) rfl rfl rfl) rfl ?_
    simp only [Act.put, List.setIfInBounds_toArray, List.set_cons_succ, List.set_cons_zero]
    refine wpS_load1 (i := 8) (d := some 25) (u := .bool _) rfl (by rfl) rfl rfl (HM13.out.sub1 3 rfl (tlC_h (hi8.out))) Try.underlying4 rfl rfl ?_
    simp only [Act.put, List.setIfInBounds_toArray, List.set_cons_succ, List.set_cons_zero]
    rw [gh]
    refine wpS_this [9] rfl (by kernel_rfl) (by simp only [pickL, nthL, List.cons_append, List.nil_append]; rfl) ?_
    repeat (go_big_quiet_step (fail))
    refine wpQuiet_nil ?_
    refine wpS_skip (i := 10) (d := some 27) rfl (by rfl) rfl ?_
    simp only [Act.put, List.setIfInBounds_toArray, List.set_cons_succ, List.set_cons_zero]
    refine wpS_this [11, 12, 13, 14] rfl (by kernel_rfl) (by simp only [pickL, nthL, List.cons_append, List.nil_append]; rfl) ?_
    repeat (go_big_quiet_step (fail))
    refine wpQuiet_nil ?_
    refine wpS_skip (i := 15) (d := some 32) rfl (by rfl) rfl ?_
    simp only [Act.put, List.setIfInBounds_toArray, List.set_cons_succ, List.set_cons_zero]
    refine wpS_skip (i := 16) (d := some 33) rfl (by rfl) rfl ?_
    simp only [Act.put, List.setIfInBounds_toArray, List.set_cons_succ, List.set_cons_zero]
    refine wpS_skip (i := 17) (d := some 34) rfl (by rfl) rfl ?_
    simp only [Act.put, List.setIfInBounds_toArray, List.set_cons_succ, List.set_cons_zero]
    refine wpS_this [18, 19] rfl (by kernel_rfl) (by simp only [pickL, nthL, List.cons_append, List.nil_append]; rfl) ?_
    repeat (go_big_quiet_step (fail))
    refine wpQuiet_nil ?_
    refine wpS_nil ?_
    refine then_normal ?_
    refine wp_cond_false rfl ?_
    refine wp_skip ?_
    refine then_normal ?_
    refine wp_seq ?_
    refine wp_region_N [(0, 1), (1, 1)] (by kernel_rfl) ?_
    refine wpS_this [0, 1] rfl (by kernel_rfl) (by simp only [pickL, nthL, List.cons_append, List.nil_append]; rfl) ?_
    repeat (go_big_quiet_step (fail))
    refine wpQuiet_nil ?_
    refine wpS_nil ?_
    refine then_normal ?_
    refine wp_ret ?_
    refine bodyPost_ret (results_tmp rfl _ _ _) rfl ?_
    exact does_ret (Mem.only (M := [_, _, _]) HM13.out [3, 1, 0] rfl) (congrArg (Value.int .i64) hq.out).symm rfl
  · have gl := decide_eq_false h1
    have hn8 : Hid (0 ≤ n ∧ n < 8) := Lib.hid ⟨by omega, hlt.out⟩
    have hi8 : Hid (n.toNat < 8) := Lib.hid (by have := hlt.out; omega)
    have gh := h2
    have gb := h3
    have hq : Hid (turnA S r peers draw = -1) := Lib.hid (by unfold turnA quietB; rw [hn.out, decide_eq_false h1, h2, h3]; rfl)
    clear h1 h2 h3
    refine wp_region_M (fun k => k ∈ ([b3, d] : List Nat)) [(0, 1), (1, 1), (2, 1), (3, 1), (4, 1), (5, 1), (6, 1), (7, 1), (8, 1), (9, 1), (10, 1), (11, 1), (12, 1), (13, 1), (14, 1), (15, 1), (16, 1), (17, 3), (18, 1), (19, 1)] (by kernel_rfl) (by kernel_rfl) HM7.out ?_
    intro W14 hm15
    have HM16 := Lib.hid hm15
    clear hm15
    refine wpS_this [0, 1, 2, 3, 4, 5, 6] rfl (by kernel_rfl) (by simp only [pickL, nthL, List.cons_append, List.nil_append]; rfl) ?_
    repeat (go_big_quiet_step (fail))
    refine wpQuiet_nil ?_
    refine wpS_read (i := 7) (d := some 24) rfl (by rfl) (run_addrHs (hn8.out) rfl rfl rfl) rfl ?_
    simp only [Act.put, List.setIfInBounds_toArray, List.set_cons_succ, List.set_cons_zero]
    refine wpS_load1 (i := 8) (d := some 25) (u := .bool _) rfl (by rfl) rfl rfl (HM16.out.sub1 3 rfl (tlC_h (hi8.out))) Try.underlying4 rfl rfl ?_
    simp only [Act.put, List.setIfInBounds_toArray, List.set_cons_succ, List.set_cons_zero]
    rw [gh]
    refine wpS_this [9] rfl (by kernel_rfl) (by simp only [pickL, nthL, List.cons_append, List.nil_append]; rfl) ?_
    repeat (go_big_quiet_step (fail))
    refine wpQuiet_nil ?_
    refine wpS_loadA (i := 10) (d := some 27) (cells := rgC (r) (.slice pr r.p.2.2.length cr)) rfl (by rfl) rfl rfl (HM16.out.sub 2 rfl (fun k u h => by rw [Nat.zero_add]; exact h)) Try.underlying37 rfl (by kernel_rfl) rfl ?_
    simp only [Act.put, List.setIfInBounds_toArray, List.set_cons_succ, List.set_cons_zero]
    refine wpS_this [11, 12, 13, 14] rfl (by kernel_rfl) (by simp only [pickL, nthL, List.cons_append, List.nil_append]; rfl) ?_
    repeat (go_big_quiet_step (fail))
    refine wpQuiet_nil ?_
    refine wpS_read (i := 15) (d := some 32) rfl (by rfl) (run_addrRg (hn8.out) rfl rfl rfl) rfl ?_
    simp only [Act.put, List.setIfInBounds_toArray, List.set_cons_succ, List.set_cons_zero]
    refine wpS_loadA (i := 16) (d := some 33) (cells := rgC (S.k n.toNat) (z n.toNat)) rfl (by rfl) rfl rfl (HM16.out.sub 3 rfl (tlC_k (hi8.out))) Try.underlying37 rfl (by kernel_rfl) rfl ?_
    simp only [Act.put, List.setIfInBounds_toArray, List.set_cons_succ, List.set_cons_zero]
    refine wpS_does2 (i := 17) (d := some 34) (rem := [_, _, _]) (out := [_, _, _, _]) rfl (by rfl) rfl Try.call30 (rbelowR_d R _ r hrR.out lr _ (S.k n.toNat) (hz.out n.toNat).1 (hz.out n.toNat).2) rfl rfl HM16.out [0] rfl (covS_box 1 rfl (covS_box 2 rfl covS_nil)) rfl rfl ?_
    rintro W18 hm17 hg19
    have HM20 := Lib.hid hm17
    clear hm17
    simp only [Act.put, List.setIfInBounds_toArray, List.set_cons_succ, List.set_cons_zero]
    refine wpS_this [18, 19] rfl (by kernel_rfl) (by simp only [pickL, nthL, List.cons_append, List.nil_append]; rfl) ?_
    repeat (go_big_quiet_step (fail))
    refine wpQuiet_nil ?_
    refine wpS_nil ?_
    refine then_normal ?_
    refine wp_cond_true rfl ?_
    refine wp_seq ?_
    refine wp_region_N [(0, 1)] (by kernel_rfl) ?_
    refine wpS_this [0] rfl (by kernel_rfl) (by simp only [pickL, nthL, List.cons_append, List.nil_append]; rfl) ?_
    repeat (go_big_quiet_step (fail))
    refine wpQuiet_nil ?_
    refine wpS_nil ?_
    refine then_normal ?_
    refine wp_ret ?_
    refine then_ret ?_
    refine bodyPost_ret (results_tmp rfl _ _ _) rfl ?_
    exact does_ret (Mem.only (M := [_, _, _]) HM20.out [3, 1, 0] rfl) (congrArg (Value.int .i64) hq.out).symm rfl
  · have gl := decide_eq_false h1
    have hn8 : Hid (0 ≤ n ∧ n < 8) := Lib.hid ⟨by omega, hlt.out⟩
    have hi8 : Hid (n.toNat < 8) := Lib.hid (by have := hlt.out; omega)
    have gh := h2
    have gb := Bool.eq_false_iff.2 h3
    have hq : Hid (turnA S r peers draw = n) := Lib.hid (by unfold turnA quietB; rw [hn.out, decide_eq_false h1, h2, Bool.eq_false_iff.2 h3]; rfl)
    clear h1 h2 h3
    refine wp_region_M (fun k => k ∈ ([b3, d] : List Nat)) [(0, 1), (1, 1), (2, 1), (3, 1), (4, 1), (5, 1), (6, 1), (7, 1), (8, 1), (9, 1), (10, 1), (11, 1), (12, 1), (13, 1), (14, 1), (15, 1), (16, 1), (17, 3), (18, 1), (19, 1)] (by kernel_rfl) (by kernel_rfl) HM7.out ?_
    intro W21 hm22
    have HM23 := Lib.hid hm22
    clear hm22
    refine wpS_this [0, 1, 2, 3, 4, 5, 6] rfl (by kernel_rfl) (by simp only [pickL, nthL, List.cons_append, List.nil_append]; rfl) ?_
    repeat (go_big_quiet_step (fail))
    refine wpQuiet_nil ?_
    refine wpS_read (i := 7) (d := some 24) rfl (by rfl) (run_addrHs (hn8.out) rfl rfl rfl) rfl ?_
    simp only [Act.put, List.setIfInBounds_toArray, List.set_cons_succ, List.set_cons_zero]
    refine wpS_load1 (i := 8) (d := some 25) (u := .bool _) rfl (by rfl) rfl rfl (HM23.out.sub1 3 rfl (tlC_h (hi8.out))) Try.underlying4 rfl rfl ?_
    simp only [Act.put, List.setIfInBounds_toArray, List.set_cons_succ, List.set_cons_zero]
    rw [gh]
    refine wpS_this [9] rfl (by kernel_rfl) (by simp only [pickL, nthL, List.cons_append, List.nil_append]; rfl) ?_
    repeat (go_big_quiet_step (fail))
    refine wpQuiet_nil ?_
    refine wpS_loadA (i := 10) (d := some 27) (cells := rgC (r) (.slice pr r.p.2.2.length cr)) rfl (by rfl) rfl rfl (HM23.out.sub 2 rfl (fun k u h => by rw [Nat.zero_add]; exact h)) Try.underlying37 rfl (by kernel_rfl) rfl ?_
    simp only [Act.put, List.setIfInBounds_toArray, List.set_cons_succ, List.set_cons_zero]
    refine wpS_this [11, 12, 13, 14] rfl (by kernel_rfl) (by simp only [pickL, nthL, List.cons_append, List.nil_append]; rfl) ?_
    repeat (go_big_quiet_step (fail))
    refine wpQuiet_nil ?_
    refine wpS_read (i := 15) (d := some 32) rfl (by rfl) (run_addrRg (hn8.out) rfl rfl rfl) rfl ?_
    simp only [Act.put, List.setIfInBounds_toArray, List.set_cons_succ, List.set_cons_zero]
    refine wpS_loadA (i := 16) (d := some 33) (cells := rgC (S.k n.toNat) (z n.toNat)) rfl (by rfl) rfl rfl (HM23.out.sub 3 rfl (tlC_k (hi8.out))) Try.underlying37 rfl (by kernel_rfl) rfl ?_
    simp only [Act.put, List.setIfInBounds_toArray, List.set_cons_succ, List.set_cons_zero]
    refine wpS_does2 (i := 17) (d := some 34) (rem := [_, _, _]) (out := [_, _, _, _]) rfl (by rfl) rfl Try.call30 (rbelowR_d R _ r hrR.out lr _ (S.k n.toNat) (hz.out n.toNat).1 (hz.out n.toNat).2) rfl rfl HM23.out [0] rfl (covS_box 1 rfl (covS_box 2 rfl covS_nil)) rfl rfl ?_
    rintro W25 hm24 hg26
    have HM27 := Lib.hid hm24
    clear hm24
    simp only [Act.put, List.setIfInBounds_toArray, List.set_cons_succ, List.set_cons_zero]
    refine wpS_this [18, 19] rfl (by kernel_rfl) (by simp only [pickL, nthL, List.cons_append, List.nil_append]; rfl) ?_
    repeat (go_big_quiet_step (fail))
    refine wpQuiet_nil ?_
    refine wpS_nil ?_
    refine then_normal ?_
    refine wp_cond_false rfl ?_
    refine wp_skip ?_
    refine then_normal ?_
    refine wp_seq ?_
    refine wp_region_N [(0, 1), (1, 1)] (by kernel_rfl) ?_
    refine wpS_this [0, 1] rfl (by kernel_rfl) (by simp only [pickL, nthL, List.cons_append, List.nil_append]; rfl) ?_
    repeat (go_big_quiet_step (fail))
    refine wpQuiet_nil ?_
    refine wpS_nil ?_
    refine then_normal ?_
    refine wp_ret ?_
    refine bodyPost_ret (results_tmp rfl _ _ _) rfl ?_
    exact does_ret (Mem.only (M := [_, _, _]) HM27.out [3, 1, 0] rfl) (congrArg (Value.int .i64) hq.out).symm rfl

end Go.Proofs.Ytnkchmafofpimaa
