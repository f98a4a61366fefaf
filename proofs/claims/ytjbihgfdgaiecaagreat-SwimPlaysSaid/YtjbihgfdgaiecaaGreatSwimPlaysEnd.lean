/- SwimPlays for every input: whatever the arguments, the law answers true, and nothing that was there has turned. -/
import Derived.Test.YtjbihgfdgaiecaaGreatPM
import Derived.Test.YtjbihgfdgaiecaaGreatPI
import Derived.Test.YtjbihgfdgaiecaaGreatChecked
import Derived.Test.YtjbihgfdgaiecaaGreatRows
namespace Go.Proofs.YtjbihgfdgaiecaaGreat
open Go Go.RowKit Go.BigFrame
def oldT (W : World) : At := ⟨OldA W, oldA_owns W⟩
theorem lokD {s : DS} (h : DsOk s) : LOk s := ⟨h.self, h.inc, h.now, h.seq, h.asked⟩
theorem row_len {P : Program} {α : Type} {E : Elem P α} {W : World} {p : Option Addr} {n c : Nat} {l : List α} (h : RowAt E W (.slice p n c) l) : l.length = n := by
 obtain ⟨p', c', he, _⟩ := h.form
 simp only [Value.slice.injEq] at he
 exact he.2.1.symm
theorem light_at {cs : List CallV} (h : lightB cs = true) {k : Nat} {y : CallV} (hy : cs[k]? = some y) : fitsC k y := by
 unfold lightB at h
 exact @of_decide_eq_true _ (Classical.propDecidable _) h k y hy
theorem rnode_d (n : Int) : Does Tryz.prog 32 #[.int .i64 n] [] (.bool (nodeB n)) [] := Does.of_any fun W => refNode_any n W
set_option maxHeartbeats 4000000 in
set_option maxRecDepth 100000 in
theorem rnew_bad_node (self inc : Int) (hb : nodeB self = false) : Does Tryz.prog 7 #[.int .i64 self, .int .i64 inc] [] (.pointer none) [] := by
 intro w H hp
 have HM0 := Lib.hid (mem_refl hp)
 clear hp
 have HN : Hid (Does Tryz.prog 32 #[.int .i64 self] [] (.bool false) []) := Lib.hid (by have := rnode_d self; rw [hb] at this; exact this)
 clear hb
 go_enter Tryz.func7, Tryz.ntmps7
 refine wp_seq ?_
 refine wp_region_N [(0, 1)] (by kernel_rfl) ?_
 refine wS1 [0] ?_
 repeat (go_big_quiet_step (fail))
 refine wpQuiet_nil ?_
 refine wpS_nil ?_
 refine then_normal ?_
 refine wp_seq ?_
 refine wp_seq ?_
 refine wp_region_N [(0, 1), (1, 3), (2, 1), (3, 1), (4, 1), (5, 1), (6, 1), (7, 1), (8, 1), (9, 1), (10, 1)] (by kernel_rfl) ?_
 refine wS1 [0] ?_
 repeat (go_big_quiet_step (fail))
 refine wpQuiet_nil ?_
 refine wpS_does1 (i := 1) (d := some 7) (rem := []) (out := []) rfl (by rfl) rfl Tryz.call32 (HN.out) rfl HM0.out [] rfl covS_nil rfl rfl ?_
 rintro W2 hm1 -
 have HM3 := Lib.hid hm1
 clear hm1
 simp only [Act.put, pA, pB, pC]
 refine wS1 [2, 3, 4, 5, 6, 7, 8, 9, 10] ?_
 repeat (go_big_quiet_step (fail))
 refine wpQuiet_nil ?_
 refine wpS_nil ?_
 refine then_normal ?_
 refine wp_cond_true rfl ?_
 refine wp_seq ?_
 refine wp_region_N [(0, 1)] (by kernel_rfl) ?_
 refine wS1 [0] ?_
 repeat (go_big_quiet_step (fail))
 refine wpQuiet_nil ?_
 refine wpS_nil ?_
 refine then_normal ?_
 refine wp_ret ?_
 refine then_ret ?_
 refine bodyPost_ret (results_tmp rfl _ _ _) rfl ?_
 exact does_ret (Mem.only (M := []) HM3.out [] rfl) rfl rfl
set_option maxHeartbeats 4000000 in
set_option maxRecDepth 100000 in
theorem rnew_bad_low (self inc : Int) (hb : nodeB self = true) (hi : inc < 0) : Does Tryz.prog 7 #[.int .i64 self, .int .i64 inc] [] (.pointer none) [] := by
 intro w H hp
 have HM0 := Lib.hid (mem_refl hp)
 clear hp
 have HN : Hid (Does Tryz.prog 32 #[.int .i64 self] [] (.bool true) []) := Lib.hid (by have := rnode_d self; rw [hb] at this; exact this)
 have g1 : decide (inc < 0) = true := decide_eq_true hi
 clear hb hi
 go_enter Tryz.func7, Tryz.ntmps7
 refine wp_seq ?_
 refine wp_region_N [(0, 1)] (by kernel_rfl) ?_
 refine wS1 [0] ?_
 repeat (go_big_quiet_step (fail))
 refine wpQuiet_nil ?_
 refine wpS_nil ?_
 refine then_normal ?_
 refine wp_seq ?_
 refine wp_seq ?_
 refine wp_region_N [(0, 1), (1, 3), (2, 1), (3, 1), (4, 1), (5, 1), (6, 1), (7, 1), (8, 1), (9, 1), (10, 1)] (by kernel_rfl) ?_
 refine wS1 [0] ?_
 repeat (go_big_quiet_step (fail))
 refine wpQuiet_nil ?_
 refine wpS_does1 (i := 1) (d := some 7) (rem := []) (out := []) rfl (by rfl) rfl Tryz.call32 (HN.out) rfl HM0.out [] rfl covS_nil rfl rfl ?_
 rintro W2 hm1 -
 have HM3 := Lib.hid hm1
 clear hm1
 simp only [Act.put, pA, pB, pC]
 refine wS1 [2, 3, 4, 5, 6, 7, 8, 9, 10] ?_
 repeat (go_big_quiet_step (fail))
 refine wpQuiet_nil ?_
 refine wpS_nil ?_
 refine then_normal ?_
 refine wp_cond_true rfl ?_
 refine wp_seq ?_
 refine wp_region_N [(0, 1)] (by kernel_rfl) ?_
 refine wS1 [0] ?_
 repeat (go_big_quiet_step (fail))
 refine wpQuiet_nil ?_
 refine wpS_nil ?_
 refine then_normal ?_
 refine wp_ret ?_
 refine then_ret ?_
 refine bodyPost_ret (results_tmp rfl _ _ _) rfl ?_
 exact does_ret (Mem.only (M := []) HM3.out [] rfl) rfl rfl
set_option maxHeartbeats 4000000 in
set_option maxRecDepth 100000 in
theorem rnew_bad_high (self inc : Int) (hb : nodeB self = true) (hi : 1000000 < inc) : Does Tryz.prog 7 #[.int .i64 self, .int .i64 inc] [] (.pointer none) [] := by
 intro w H hp
 have HM0 := Lib.hid (mem_refl hp)
 clear hp
 have HN : Hid (Does Tryz.prog 32 #[.int .i64 self] [] (.bool true) []) := Lib.hid (by have := rnode_d self; rw [hb] at this; exact this)
 have g1 : decide (inc < 0) = false := decide_eq_false (by omega)
 have g2 : decide (1000000 < inc) = true := decide_eq_true hi
 clear hb hi
 go_enter Tryz.func7, Tryz.ntmps7
 refine wp_seq ?_
 refine wp_region_N [(0, 1)] (by kernel_rfl) ?_
 refine wS1 [0] ?_
 repeat (go_big_quiet_step (fail))
 refine wpQuiet_nil ?_
 refine wpS_nil ?_
 refine then_normal ?_
 refine wp_seq ?_
 refine wp_seq ?_
 refine wp_region_N [(0, 1), (1, 3), (2, 1), (3, 1), (4, 1), (5, 1), (6, 1), (7, 1), (8, 1), (9, 1), (10, 1)] (by kernel_rfl) ?_
 refine wS1 [0] ?_
 repeat (go_big_quiet_step (fail))
 refine wpQuiet_nil ?_
 refine wpS_does1 (i := 1) (d := some 7) (rem := []) (out := []) rfl (by rfl) rfl Tryz.call32 (HN.out) rfl HM0.out [] rfl covS_nil rfl rfl ?_
 rintro W2 hm1 -
 have HM3 := Lib.hid hm1
 clear hm1
 simp only [Act.put, pA, pB, pC]
 refine wS1 [2, 3, 4, 5, 6, 7, 8, 9, 10] ?_
 repeat (go_big_quiet_step (fail))
 refine wpQuiet_nil ?_
 refine wpS_nil ?_
 refine then_normal ?_
 refine wp_cond_true rfl ?_
 refine wp_seq ?_
 refine wp_region_N [(0, 1)] (by kernel_rfl) ?_
 refine wS1 [0] ?_
 repeat (go_big_quiet_step (fail))
 refine wpQuiet_nil ?_
 refine wpS_nil ?_
 refine then_normal ?_
 refine wp_ret ?_
 refine then_ret ?_
 refine bodyPost_ret (results_tmp rfl _ _ _) rfl ?_
 exact does_ret (Mem.only (M := []) HM3.out [] rfl) rfl rfl
theorem rnew_bad (self inc : Int) (h : ¬ ((0 ≤ self ∧ self < 8) ∧ 0 ≤ inc ∧ inc ≤ 1000000)) : Does Tryz.prog 7 #[.int .i64 self, .int .i64 inc] [] (.pointer none) [] := by
 cases hb : nodeB self with
 | false => exact rnew_bad_node self inc hb
 | true =>
  have : 0 ≤ self ∧ self < 8 := by simpa [nodeB] using hb
  by_cases h1 : inc < 0
  ·exact rnew_bad_low self inc hb h1
  ·exact rnew_bad_high self inc hb (by omega)
set_option maxHeartbeats 4000000 in
set_option maxRecDepth 100000 in
theorem plays_d (me inc : Int) (W0 : World) (v : Value) (cs : List CallV) (hv : RowAt elemCall W0 v cs) (hq : ∀ y ∈ cs, CallQ W0 y) : Does Tryz.prog 3 #[.int .i64 me, .int .i64 inc, v] [oldT W0] (.bool true) [oldT W0] := by
 intro w H hp
 have HM0 := Lib.hid (mem_refl hp)
 clear hp
 obtain ⟨p, cap, rfl, -⟩ := hv.form
 go_enter Tryz.func3, Tryz.ntmps3
 refine wp_seq ?_
 refine wp_region_N [(0, 1)] (by kernel_rfl) ?_
 refine wS1 [0] ?_
 repeat (go_big_quiet_step (fail))
 refine wpQuiet_nil ?_
 refine wpS_nil ?_
 refine then_normal ?_
 refine wp_seq ?_
 refine wp_seq ?_
 cases hlb : lightB cs
 ·skip
  refine wp_region_N [(0, 1), (1, 3), (2, 1)] (by kernel_rfl) ?_
  refine wS1 [0] ?_
  repeat (go_big_quiet_step (fail))
  refine wpQuiet_nil ?_
  refine wpS_does1 (i := 1) (d := some 13) (rem := []) (out := [_]) rfl (by rfl) rfl Tryz.call4 (light_d (oldT W0) (.slice p cs.length cap) cs (fun W H h => OldA.row h hv)) rfl HM0.out [0] rfl covS_nil rfl rfl ?_
  rintro W2 hm1 -
  rw [hlb]
  have HM3 := Lib.hid hm1
  clear hm1
  simp only [Act.put, pA, pB, pC]
  refine wS1 [2] ?_
  repeat (go_big_quiet_step (fail))
  refine wpQuiet_nil ?_
  refine wpS_nil ?_
  refine then_normal ?_
  refine wp_cond_true rfl ?_
  refine wp_seq ?_
  refine wp_region_N [(0, 3), (1, 1)] (by kernel_rfl) ?_
  refine wpS_does0 (i := 0) (d := some 15) (rem := [_]) (out := [_]) rfl (by rfl) rfl Tryz.call5 (awake_d)  HM3.out [] rfl covS_nil rfl rfl ?_
  rintro W5 hm4 -
  have HM6 := Lib.hid hm4
  clear hm4
  simp only [Act.put, pA, pB, pC]
  refine wS1 [1] ?_
  repeat (go_big_quiet_step (fail))
  refine wpQuiet_nil ?_
  refine wpS_nil ?_
  refine then_normal ?_
  refine wp_ret ?_
  refine then_ret ?_
  refine bodyPost_ret (results_tmp rfl _ _ _) rfl ?_
  exact does_ret (Mem.only (M := [_]) HM6.out [0] rfl) rfl rfl
 ·skip
  refine wp_region_N [(0, 1), (1, 3), (2, 1)] (by kernel_rfl) ?_
  refine wS1 [0] ?_
  repeat (go_big_quiet_step (fail))
  refine wpQuiet_nil ?_
  refine wpS_does1 (i := 1) (d := some 13) (rem := []) (out := [_]) rfl (by rfl) rfl Tryz.call4 (light_d (oldT W0) (.slice p cs.length cap) cs (fun W H h => OldA.row h hv)) rfl HM0.out [0] rfl covS_nil rfl rfl ?_
  rintro W8 hm7 -
  rw [hlb]
  have HM9 := Lib.hid hm7
  clear hm7
  simp only [Act.put, pA, pB, pC]
  refine wS1 [2] ?_
  repeat (go_big_quiet_step (fail))
  refine wpQuiet_nil ?_
  refine wpS_nil ?_
  refine then_normal ?_
  refine wp_cond_false rfl ?_
  refine wp_skip ?_
  refine then_normal ?_
  refine wp_seq ?_
  by_cases hval : (0 ≤ me ∧ me < 8) ∧ 0 ≤ inc ∧ inc ≤ 1000000
  ·obtain ⟨hme, hinc⟩ := hval
   refine wp_region_N [(0, 1), (1, 1), (2, 3), (3, 1), (4, 1), (5, 3), (6, 1), (7, 1)] (by kernel_rfl) ?_
   refine wS1 [0, 1] ?_
   repeat (go_big_quiet_step (fail))
   refine wpQuiet_nil ?_
   refine wpS_doesU2 (i := 2) (d := some 18) (rem := [_]) rfl (by rfl) rfl Tryz.call6 (new_d me inc hme hinc) rfl rfl HM9.out [] rfl covS_nil (fun _ => rfl) rfl ?_
   rintro u12 W11 hm10 -
   obtain ⟨bk, hm10e⟩ := Mem.ex hm10
   clear hm10
   obtain ⟨hm10u, hm10⟩ := Mem.pr hm10e
   clear hm10e
   subst hm10u
   have HM13 := Lib.hid hm10
   clear hm10
   simp only [Act.put, pA, pB, pC]
   refine wS1 [3, 4] ?_
   repeat (go_big_quiet_step (fail))
   refine wpQuiet_nil ?_
   refine wpS_doesU2 (i := 5) (d := some 21) (rem := [_, _, _, _, _, _]) rfl (by rfl) rfl Tryz.call7 (rnew_d me inc hme hinc) rfl rfl HM13.out [] rfl covS_nil (fun _ => rfl) rfl ?_
   rintro u16 W15 hm14 -
   obtain ⟨mr, hm14e⟩ := Mem.ex hm14
   clear hm14
   obtain ⟨hm14u, hm14⟩ := Mem.pr hm14e
   clear hm14e
   subst hm14u
   have HM17 := Lib.hid hm14
   clear hm14
   simp only [Act.put, pA, pB, pC]
   refine wS1 [6, 7] ?_
   repeat (go_big_quiet_step (fail))
   refine wpQuiet_nil ?_
   refine wpS_nil ?_
   refine then_normal ?_
   refine wp_seq ?_
   refine wp_seq ?_
   refine wp_region_N [(0, 1), (1, 1), (2, 1), (3, 1), (4, 1)] (by kernel_rfl) ?_
   refine wS1 [0, 1, 2, 3, 4] ?_
   repeat (go_big_quiet_step (fail))
   refine wpQuiet_nil ?_
   refine wpS_nil ?_
   refine then_normal ?_
   refine wp_cond_false rfl ?_
   refine wp_skip ?_
   refine then_normal ?_
   refine wp_seq ?_
   refine wp_seq ?_
   refine wp_region_N [(0, 1), (1, 1)] (by kernel_rfl) ?_
   refine wS1 [0, 1] ?_
   repeat (go_big_quiet_step (fail))
   refine wpQuiet_nil ?_
   refine wpS_nil ?_
   refine then_normal ?_
   refine wp_cond_false rfl ?_
   refine wp_skip ?_
   refine then_normal ?_
   refine wp_seq ?_
   refine wp_seq ?_
   refine wp_region_N [(0, 1), (1, 1), (2, 1)] (by kernel_rfl) ?_
   refine wS1 [0, 1, 2] ?_
   repeat (go_big_quiet_step (fail))
   refine wpQuiet_nil ?_
   refine wpS_nil ?_
   refine then_normal ?_
   refine wp_block ?_
   refine wp_loop_F [6, 10, 11, 32, 33, 34, 35, 36, 37, 38, 39, 40, 41, 42, 43, 44, 45, 46, 47, 48, 49, 50, 51, 52, 53, 54, 55, 56, 57, 58, 59, 60, 61, 62, 63, 64, 65, 66, 67, 68, 69, 70, 71, 72, 73, 74, 75, 76, 77, 78, 79, 80, 81, 82, 83, 84, 85, 86, 87, 88, 89, 90, 91, 92, 93, 94, 95, 96, 97, 98, 99, 100, 101, 102, 103, 104, 105, 106, 107, 108, 109, 110, 111, 112, 113, 114, 115, 116, 117, 118, 119, 120, 121, 122, 123, 124, 125, 126, 127, 128, 129, 130, 131, 132, 133, 134, 135, 136, 137, 138, 139] (fun n vs W' => ∃ (k : Nat) (s : DS), n = cs.length - k ∧ vs 32 = .int .i64 (k : Int) ∧ k ≤ cs.length ∧ s.now ≤ (k : Int) ∧ Mem (rdT mr s :: oldT W0 :: LP bk.d s bk.pv bk.pq bk.po bk.pc) H w W') (n0 := cs.length) ?_ ?_
   ·exact ⟨0, newD me inc, rfl, rfl, Nat.zero_le _, (by show (0 : Int) ≤ ((0 : Nat) : Int); decide), (Mem.only (M := [_, _, _, _, _, _, _]) HM17.out [0, 5, 0, 0, 0, 0, 0] rfl)⟩
   rintro n vs W' ⟨k, s, rfl, e32, hk, hs, hm⟩
   simp only [putAll, List.map_cons, List.map_nil, Act.put, List.setIfInBounds_toArray, List.set_cons_succ, List.set_cons_zero]
   rw [e32]
   clear e32
   have hok : DsOk s := hm.have 0 rfl fun _ h => h.1
   have HM18 := Lib.hid hm
   clear hm
   refine wp_seq ?_
   refine wp_region_N [(0, 1)] (by kernel_rfl) ?_
   refine wS1 [0] ?_
   repeat (go_big_quiet_step (fail))
   refine wpQuiet_nil ?_
   refine wpS_nil ?_
   refine then_normal ?_
   refine wp_seq ?_
   refine wp_cond_split rfl (fun h19 => ?_) (fun h19 => ?_)
   ·have hk1 : k + 1 ≤ cs.length := by have : (k : Int) < (cs.length : Int) := (by simpa using h19); omega
    clear h19
    obtain ⟨y, hy⟩ : ∃ y, cs[k]? = some y := ⟨_, List.getElem?_eq_getElem hk1⟩
    have hfit := Lib.hid (light_at hlb hy)
    have hk80 : k < 80 := hfit.out.1
    obtain ⟨⟨ycl, hycl⟩, yps, hyps⟩ := hq y (List.mem_of_getElem? hy)
    have hycl := Lib.hid hycl.1
    have hyps := Lib.hid hyps.1
    refine wp_skip ?_
    refine then_normal ?_
    refine wp_seq ?_
    refine wp_block ?_
    refine wp_seq ?_
    refine wp_region_N [(0, 1), (1, 1), (2, 3), (3, 3)] (by kernel_rfl) ?_
    refine wpS_index (E := elemCall) (i := 0) (d := some 34) rfl (by rfl) rfl rfl rfl (HM18.out.row 1 rfl (fun W H h => OldA.row h hv)) (hy) rfl ?_
    intro eb20 eo21 hc22
    simp only [Act.put, pA, pB, pC]
    refine wpS_loadA (i := 1) (d := some 35) (cells := y.enc) rfl (by rfl) rfl rfl hc22 Tryz.underlying49 rfl (by rw [CallV.len]; kernel_rfl) rfl ?_
    simp only [Act.put, pA, pB, pC]
    refine wpS_alloc (i := 2) (dd := 10) (z := .agg #[.int .i64 0, .int .i64 0, .int .i64 0, .int .i64 0, .int .i64 0, .int .i64 0, .int .i64 0, .int .i64 0, .int .i64 0, .int .i64 0, .int .i64 0, .int .i64 0, .string ByteArray.empty, .int .i64 0, .int .i64 0, .int .i64 0, .int .i64 0, .int .i64 0, .int .i64 0, .int .i64 0, .int .i64 0, .slice none 0 0, .int .i64 0, .int .i64 0, .int .i64 0, .int .i64 0, .int .i64 0, .int .i64 0, .int .i64 0, .int .i64 0, .int .i64 0, .int .i64 0, .slice none 0 0, .int .i64 0, .int .i64 0, .int .i64 0, .int .i64 0, .int .i64 0, .int .i64 0, .int .i64 0, .int .i64 0, .int .i64 0, .int .i64 0, .int .i64 0, .int .i64 0, .int .i64 0, .int .i64 0, .int .i64 0, .int .i64 0, .int .i64 0, .int .i64 0, .int .i64 0, .int .i64 0, .int .i64 0, .int .i64 0, .int .i64 0, .int .i64 0, .int .i64 0, .int .i64 0, .int .i64 0, .int .i64 0, .int .i64 0, .int .i64 0, .int .i64 0, .int .i64 0, .slice none 0 0, .slice none 0 0, .int .u64 0]) (cs := #[.int .i64 0, .int .i64 0, .int .i64 0, .int .i64 0, .int .i64 0, .int .i64 0, .int .i64 0, .int .i64 0, .int .i64 0, .int .i64 0, .int .i64 0, .int .i64 0, .string ByteArray.empty, .int .i64 0, .int .i64 0, .int .i64 0, .int .i64 0, .int .i64 0, .int .i64 0, .int .i64 0, .int .i64 0, .slice none 0 0, .int .i64 0, .int .i64 0, .int .i64 0, .int .i64 0, .int .i64 0, .int .i64 0, .int .i64 0, .int .i64 0, .int .i64 0, .int .i64 0, .slice none 0 0, .int .i64 0, .int .i64 0, .int .i64 0, .int .i64 0, .int .i64 0, .int .i64 0, .int .i64 0, .int .i64 0, .int .i64 0, .int .i64 0, .int .i64 0, .int .i64 0, .int .i64 0, .int .i64 0, .int .i64 0, .int .i64 0, .int .i64 0, .int .i64 0, .int .i64 0, .int .i64 0, .int .i64 0, .int .i64 0, .int .i64 0, .int .i64 0, .int .i64 0, .int .i64 0, .int .i64 0, .int .i64 0, .int .i64 0, .int .i64 0, .int .i64 0, .int .i64 0, .slice none 0 0, .slice none 0 0, .int .u64 0]) rfl (by rfl) rfl (by kernel_rfl) rfl HM18.out covS_nil rfl ?_
    rintro b25 W24 hm23 -
    have HM26 := Lib.hid hm23
    clear hm23
    simp only [Act.put, pA, pB, pC]
    refine wpS_storeW (i := 3) (vs := y.enc) (L2 := [_, _, _, _, _, _, _]) rfl (by rfl) rfl rfl rfl (by kernel_rfl) (by rw [CallV.len]; rfl) (fun u hu => elemCall.one y u hu) HM26.out 0 rfl rfl covS_nil rfl ?_
    rintro W28 hm27 -
    have HM29 := Lib.hid hm27
    clear hm27
    refine wpS_nil ?_
    refine then_normal ?_
    refine wp_seq ?_
    refine wp_region_N [(0, 1)] (by kernel_rfl) ?_
    refine wS1 [0] ?_
    repeat (go_big_quiet_step (fail))
    refine wpQuiet_nil ?_
    refine wpS_nil ?_
    refine then_normal ?_
    refine wp_seq ?_
    refine wp_seq ?_
    refine wp_region_N [(0, 1), (1, 1)] (by kernel_rfl) ?_
    refine wS1 [0] ?_
    repeat (go_big_quiet_step (fail))
    refine wpQuiet_nil ?_
    refine wpS_load1 (i := 1) (d := some 37) (u := .int .i64 y.o) rfl (by rfl) rfl rfl (HM29.out.cellL 0 rfl 0) Tryz.underlying3 rfl rfl ?_
    simp only [Act.put, pA, pB, pC]
    refine wpS_nil ?_
    refine then_normal ?_
    refine wp_cut_F [11, 38, 39, 40, 41, 42, 43, 44, 45, 46, 47, 48, 49, 50, 51, 52, 53, 54, 55, 56, 57, 58, 59, 60, 61, 62, 63, 64, 65, 66, 67, 68, 69, 70, 71, 72, 73, 74, 75, 76, 77, 78, 79, 80, 81, 82] (fun vs W' => ∃ s2 : DS, s2.now ≤ ((k + 1 : Nat) : Int) ∧ vs 11 = .bool true ∧ Mem (rdT mr s2 :: boxT b25 (.cells y.enc.toArray 49 (0, 0)) :: oldT W0 :: LP bk.d s2 bk.pv bk.pq bk.po bk.pc) H w W') ?_ ?_
    ·refine wp_block ?_
     refine wp_seq ?_
     refine wp_region_N [(0, 1), (1, 1)] (by kernel_rfl) ?_
     refine wS1 [0, 1] ?_
     repeat (go_big_quiet_step (fail))
     refine wpQuiet_nil ?_
     refine wpS_nil ?_
     refine then_normal ?_
     refine wp_cond_split rfl (fun h30 => ?_) (fun h30 => ?_)
     ·clear h30
      refine wp_region_M (fun k => k ∈ ([b25] : List Nat)) [(0, 1), (1, 1), (2, 1), (4, 0), (5, 0), (6, 2), (3, 3), (7, 3), (8, 1), (9, 1)] (by kernel_rfl) (by kernel_rfl) HM29.out ?_
      intro W31 hm32
      have HM33 := Lib.hid hm32
      clear hm32
      refine wS1 [0, 1] ?_
      repeat (go_big_quiet_step (fail))
      refine wpQuiet_nil ?_
      refine wpS_loadA (i := 2) (d := some 56) (cells := [.int .i64 y.n, .int .i64 y.i, .int .i64 y.h]) rfl (by rfl) rfl rfl (fun k u hu => ((HM33.out.cellL 0 rfl (1 + k)).trans (y.at_c k u hu))) Tryz.underlying30 rfl (by kernel_rfl) rfl ?_
      simp only [Act.put, pA, pB, pC]
      refine wS0 [4, 5] ?_
      repeat (go_big_quiet_step (fail))
      refine wpQuiet_nil ?_
      refine wpS_loadA2 (i := 6) (d := some 60) (cells := [.int .i64 y.n, .int .i64 y.i, .int .i64 y.h]) rfl (by rfl) rfl rfl (by simp) (fun k u hu => ((HM33.out.cellL 0 rfl (1 + k)).trans (y.at_c k u hu))) Tryz.underlying30 rfl (by kernel_rfl) rfl ?_
      simp only [Act.put, pA, pB, pC]
      refine wpS_does2 (i := 3) (d := some 57) (rem := [_, _, _]) (out := [_, _, _, _, _, _, _, _]) rfl (by rfl) rfl Tryz.call8 (hearCall_d bk.d s bk.pv bk.pq bk.po bk.pc y.n y.i y.h (lokD hok)) rfl rfl HM33.out [3, 3, 3, 3, 3] rfl (covS_box 0 rfl covS_nil) rfl rfl ?_
      rintro W35 hm34 hg36
      obtain ⟨s2, hst⟩ : ∃ x, (hearCall s ⟨y.n, y.i, y.h⟩).1 = x := ⟨_, rfl⟩
      rw [hst] at hm34
      have hnw : s2.now ≤ ((k + 1 : Nat) : Int) := by rw [← hst, (up_hearCall s _).now]; omega
      have hst := Lib.hid hst
      have HM37 := Lib.hid hm34
      clear hm34
      simp only [Act.put, pA, pB, pC]
      refine wpS_does2 (i := 7) (d := some 61) (rem := [_, _, _, _, _, _, _]) (out := [_, _, _, _, _, _, _, _]) rfl (by rfl) rfl Tryz.call9 (rhearCall_d mr s y.n y.i y.h) rfl rfl HM37.out [6] rfl (covS_box 5 rfl covS_nil) rfl rfl ?_
      rintro W39 hm38 hg40
      rw [hst.out] at hm38
      have HM41 := Lib.hid hm38
      clear hm38
      simp only [Act.put, pA, pB, pC]
      refine wS1 [8, 9] ?_
      repeat (go_big_quiet_step (fail))
      refine wpQuiet_nil ?_
      refine wpS_nil ?_
      refine block_normal ?_
      refine then_normal ?_
      refine ⟨by kernel_rfl, ?_⟩
      exact ⟨s2, hnw, rfl, (Mem.only (M := [_, _, _, _, _, _, _, _]) HM41.out [0, 5, 5, 0, 0, 0, 0, 0] rfl)⟩
     ·clear h30
      refine wp_seq ?_
      refine wp_region_N [(0, 1), (1, 1)] (by kernel_rfl) ?_
      refine wS1 [0, 1] ?_
      repeat (go_big_quiet_step (fail))
      refine wpQuiet_nil ?_
      refine wpS_nil ?_
      refine then_normal ?_
      refine wp_cond_split rfl (fun h42 => ?_) (fun h42 => ?_)
      ·clear h42
       refine wp_region_N [(0, 1), (1, 3), (2, 1), (3, 3), (4, 1), (5, 1)] (by kernel_rfl) ?_
       refine wS1 [0] ?_
       repeat (go_big_quiet_step (fail))
       refine wpQuiet_nil ?_
       refine wpS_does1 (i := 1) (d := some 66) (rem := [_, _, _]) (out := [_, _, _, _, _, _, _, _]) rfl (by rfl) rfl Tryz.call10 (leave_d bk.d s bk.pv bk.pq bk.po bk.pc) rfl HM29.out [3, 3, 3, 3, 3] rfl covS_nil rfl rfl ?_
       rintro W44 hm43 -
       obtain ⟨s2, hst⟩ : ∃ x, (leaveD s).1 = x := ⟨_, rfl⟩
       rw [hst] at hm43
       have hnw : s2.now ≤ ((k + 1 : Nat) : Int) := by rw [← hst, (leaveD_rest s).2.2.1]; omega
       have hst := Lib.hid hst
       have HM45 := Lib.hid hm43
       clear hm43
       simp only [Act.put, pA, pB, pC]
       refine wS1 [2] ?_
       repeat (go_big_quiet_step (fail))
       refine wpQuiet_nil ?_
       refine wpS_does1 (i := 3) (d := some 68) (rem := [_, _, _, _, _, _, _]) (out := [_, _, _, _, _, _, _, _]) rfl (by rfl) rfl Tryz.call11 (rleave_d mr s) rfl HM45.out [6] rfl covS_nil rfl rfl ?_
       rintro W47 hm46 -
       rw [hst.out] at hm46
       have HM48 := Lib.hid hm46
       clear hm46
       simp only [Act.put, pA, pB, pC]
       refine wS1 [4, 5] ?_
       repeat (go_big_quiet_step (fail))
       refine wpQuiet_nil ?_
       refine wpS_nil ?_
       refine block_normal ?_
       refine then_normal ?_
       refine ⟨by kernel_rfl, ?_⟩
       exact ⟨s2, hnw, rfl, (Mem.only (M := [_, _, _, _, _, _, _, _]) HM48.out [0, 5, 5, 0, 0, 0, 0, 0] rfl)⟩
      ·clear h42
       refine wp_seq ?_
       refine wp_seq ?_
       refine wp_region_N [(0, 1), (1, 1)] (by kernel_rfl) ?_
       refine wS1 [0, 1] ?_
       repeat (go_big_quiet_step (fail))
       refine wpQuiet_nil ?_
       refine wpS_nil ?_
       refine then_normal ?_
       refine wp_cond_split rfl (fun h49 => ?_) (fun h49 => ?_)
       ·clear h49
        refine wp_skip ?_
        refine then_normal ?_
        refine wp_cond_split rfl (fun h50 => ?_) (fun h50 => ?_)
        ·clear h50
         refine wp_region_M (fun k => k ∈ ([b25] : List Nat)) [(0, 1), (1, 1), (2, 1), (4, 0), (5, 0), (6, 2), (3, 3), (7, 3), (8, 3), (9, 1), (10, 1)] (by kernel_rfl) (by kernel_rfl) HM29.out ?_
         intro W51 hm52
         have HM53 := Lib.hid hm52
         clear hm52
         refine wS1 [0, 1] ?_
         repeat (go_big_quiet_step (fail))
         refine wpQuiet_nil ?_
         refine wpS_loadA (i := 2) (d := some 75) (cells := y.m.enc) rfl (by rfl) rfl rfl (fun k u hu => ((HM53.out.cellL 0 rfl (4 + k)).trans (y.at_m k u hu))) Tryz.underlying46 rfl (by rw [InM.enc_len y.hm]; kernel_rfl) rfl ?_
         simp only [Act.put, pA, pB, pC]
         refine wS0 [4, 5] ?_
         repeat (go_big_quiet_step (fail))
         refine wpQuiet_nil ?_
         refine wpS_loadA2 (i := 6) (d := some 79) (cells := y.m.enc) rfl (by rfl) rfl rfl (by simp) (fun k u hu => ((HM53.out.cellL 0 rfl (4 + k)).trans (y.at_m k u hu))) Tryz.underlying46 rfl (by rw [InM.enc_len y.hm]; kernel_rfl) rfl ?_
         simp only [Act.put, pA, pB, pC]
         refine wpS_doesU2 (i := 3) (d := some 76) (rem := [_, _]) rfl (by rfl) rfl Tryz.call13 (handle_d bk.d s bk.pv bk.pq bk.po bk.pc (oldT W0) y.m ycl (fun W H h => OldA.row h hycl.out) (by have := row_len hycl.out; have := hfit.out.2.1; omega) y.hm (lokD hok)) rfl rfl HM53.out [2, 2, 2, 2, 2, 2] rfl (covS_box 0 rfl covS_nil) (fun _ => rfl) rfl ?_
         rintro u57 W55 hm54 hg56
         obtain ⟨s2, hst⟩ : ∃ x, (handleD s (y.m.mm ycl)).1 = x := ⟨_, rfl⟩
         rw [hst] at hm54
         have hnw : s2.now ≤ ((k + 1 : Nat) : Int) := by rw [← hst, (up_handleD s _).now]; omega
         have hst := Lib.hid hst
         obtain ⟨ms, hms⟩ : ∃ x, (handleD s (y.m.mm ycl)).2 = x := ⟨_, rfl⟩
         rw [hms] at hm54
         have hsm : SmallC ms := hms ▸ smallC_handle s _
         have hml : ms.length ≤ 1000 := by rw [← hms]; exact Nat.le_trans (handle_len s _) (by decide)
         have hms := Lib.hid hms
         have hsm := Lib.hid hsm
         have hml := Lib.hid hml
         obtain ⟨va, hva⟩ : ∃ v, u57 = v := ⟨_, rfl⟩
         rw [hva] at hm54 ⊢
         clear hva
         have HM58 := Lib.hid hm54
         clear hm54
         simp only [Act.put, pA, pB, pC]
         refine wpS_doesU2 (i := 7) (d := some 80) (rem := [_, _, _, _, _, _, _]) rfl (by rfl) rfl Tryz.call14 (rhandle_d mr s (oldT W0) y.m ycl (fun W H h => OldA.row h hycl.out) (by have := row_len hycl.out; have := hfit.out.2.1; omega) y.hm) rfl rfl HM58.out [8, 1] rfl (covS_box 6 rfl covS_nil) (fun _ => rfl) rfl ?_
         rintro u62 W60 hm59 hg61
         rw [hst.out, hms.out] at hm59
         obtain ⟨vb, hvb⟩ : ∃ v, u62 = v := ⟨_, rfl⟩
         rw [hvb] at hm59 ⊢
         clear hvb
         have HM63 := Lib.hid hm59
         clear hm59
         simp only [Act.put, pA, pB, pC]
         refine wpS_does2 (i := 8) (d := some 81) (rem := [_, _, _, _, _, _, _, _]) (out := [_, _, _, _, _, _, _, _, _, _]) rfl (by rfl) rfl Tryz.call12 (sameM_d va vb ms hsm.out hml.out) rfl rfl HM63.out [3, 0] rfl (covS_box 7 rfl covS_nil) rfl rfl ?_
         rintro W65 hm64 hg66
         have HM67 := Lib.hid hm64
         clear hm64
         simp only [Act.put, pA, pB, pC]
         refine wS1 [9, 10] ?_
         repeat (go_big_quiet_step (fail))
         refine wpQuiet_nil ?_
         refine wpS_nil ?_
         refine block_normal ?_
         refine then_normal ?_
         refine ⟨by kernel_rfl, ?_⟩
         exact ⟨s2, hnw, rfl, (Mem.only (M := [_, _, _, _, _, _, _, _]) HM67.out [3, 8, 2, 2, 2, 2, 2, 2] rfl)⟩
        ·clear h50
         have hfin := Lib.hid (clk_fine HM29.out 7 rfl)
         refine wp_region_M (fun k => k ∈ ([b25] : List Nat)) [(0, 1), (1, 1), (2, 1), (3, 1), (4, 1), (6, 0), (7, 0), (8, 2), (9, 0), (10, 2), (5, 3), (11, 3), (12, 3), (13, 1), (14, 1)] (by kernel_rfl) (by kernel_rfl) HM29.out ?_
         intro W68 hm69
         have HM70 := Lib.hid hm69
         clear hm69
         refine wS1 [0, 1] ?_
         repeat (go_big_quiet_step (fail))
         refine wpQuiet_nil ?_
         refine wpS_load1 (i := 2) (d := some 40) (u := .slice y.pp y.pn y.pc) rfl (by rfl) rfl rfl ((HM70.out.cellL 0 rfl 66).trans y.at_p) Tryz.underlying36 rfl rfl ?_
         simp only [Act.put, pA, pB, pC]
         refine wS1 [3] ?_
         repeat (go_big_quiet_step (fail))
         refine wpQuiet_nil ?_
         refine wpS_load1 (i := 4) (d := some 42) (u := .int .u64 y.draw) rfl (by rfl) rfl rfl ((HM70.out.cellL 0 rfl 67).trans y.at_d) Tryz.underlying47 rfl rfl ?_
         simp only [Act.put, pA, pB, pC]
         refine wS0 [6, 7] ?_
         repeat (go_big_quiet_step (fail))
         refine wpQuiet_nil ?_
         refine wpS_load12 (i := 8) (d := some 46) (u := .slice y.pp y.pn y.pc) rfl (by rfl) rfl rfl (by simp) ((HM70.out.cellL 0 rfl 66).trans y.at_p) Tryz.underlying36 rfl rfl ?_
         simp only [Act.put, pA, pB, pC]
         refine wS0 [9] ?_
         repeat (go_big_quiet_step (fail))
         refine wpQuiet_nil ?_
         refine wpS_load12 (i := 10) (d := some 48) (u := .int .u64 y.draw) rfl (by rfl) rfl rfl (by simp) ((HM70.out.cellL 0 rfl 67).trans y.at_d) Tryz.underlying47 rfl rfl ?_
         simp only [Act.put, pA, pB, pC]
         refine wpS_doesU3 (i := 5) (d := some 43) (rem := [_, _]) rfl (by rfl) rfl Tryz.call15 (tick_d bk.d s bk.pv bk.pq bk.po bk.pc (.slice y.pp y.pn y.pc) y.draw (oldT W0) yps (fun W H h => OldA.row h hyps.out) (by have := row_len hyps.out; have := hfit.out.2.2; omega) (lokD hok) (by have := hfit.out.1; omega) y.d0 y.d1) rfl rfl rfl HM70.out [2, 2, 2, 2, 2, 2] rfl (covS_box 0 rfl covS_nil) (fun _ => rfl) rfl ?_
         rintro u74 W72 hm71 hg73
         obtain ⟨s2, hst⟩ : ∃ x, (tickD s yps y.draw).1 = x := ⟨_, rfl⟩
         rw [hst] at hm71
         have hnw : s2.now ≤ ((k + 1 : Nat) : Int) := by rw [← hst, (up_tickD s yps y.draw).now]; show s.now + 1 ≤ _; omega
         have hst := Lib.hid hst
         obtain ⟨ms, hms⟩ : ∃ x, (tickD s yps y.draw).2 = x := ⟨_, rfl⟩
         rw [hms] at hm71
         have hsm : SmallC ms := hms ▸ smallC_tick s _ _
         have hml : ms.length ≤ 1000 := by rw [← hms]; exact Nat.le_trans (tick_len hfin.out _ _) (by decide)
         have hms := Lib.hid hms
         have hsm := Lib.hid hsm
         have hml := Lib.hid hml
         obtain ⟨va, hva⟩ : ∃ v, u74 = v := ⟨_, rfl⟩
         rw [hva] at hm71 ⊢
         clear hva
         have HM75 := Lib.hid hm71
         clear hm71
         simp only [Act.put, pA, pB, pC]
         refine wpS_doesU3 (i := 11) (d := some 49) (rem := [_, _, _, _, _, _, _]) rfl (by rfl) rfl Tryz.call16 (rtick_d mr s (.slice y.pp y.pn y.pc) y.draw (oldT W0) yps (fun W H h => OldA.row h hyps.out) (by have := row_len hyps.out; have := hfit.out.2.2; omega) (by have := hfit.out.1; omega) y.d0 y.d1) rfl rfl rfl HM75.out [8, 1] rfl (covS_box 6 rfl covS_nil) (fun _ => rfl) rfl ?_
         rintro u79 W77 hm76 hg78
         rw [hst.out, hms.out] at hm76
         obtain ⟨vb, hvb⟩ : ∃ v, u79 = v := ⟨_, rfl⟩
         rw [hvb] at hm76 ⊢
         clear hvb
         have HM80 := Lib.hid hm76
         clear hm76
         simp only [Act.put, pA, pB, pC]
         refine wpS_does2 (i := 12) (d := some 50) (rem := [_, _, _, _, _, _, _, _]) (out := [_, _, _, _, _, _, _, _, _, _]) rfl (by rfl) rfl Tryz.call12 (sameM_d va vb ms hsm.out hml.out) rfl rfl HM80.out [3, 0] rfl (covS_box 7 rfl covS_nil) rfl rfl ?_
         rintro W82 hm81 hg83
         have HM84 := Lib.hid hm81
         clear hm81
         simp only [Act.put, pA, pB, pC]
         refine wS1 [13, 14] ?_
         repeat (go_big_quiet_step (fail))
         refine wpQuiet_nil ?_
         refine wpS_nil ?_
         refine block_normal ?_
         refine then_normal ?_
         refine ⟨by kernel_rfl, ?_⟩
         exact ⟨s2, hnw, rfl, (Mem.only (M := [_, _, _, _, _, _, _, _]) HM84.out [3, 8, 2, 2, 2, 2, 2, 2] rfl)⟩
       ·clear h49
        refine wp_region_N [(0, 1), (1, 1)] (by kernel_rfl) ?_
        refine wS1 [0, 1] ?_
        repeat (go_big_quiet_step (fail))
        refine wpQuiet_nil ?_
        refine wpS_nil ?_
        refine then_normal ?_
        refine wp_cond_split rfl (fun h85 => ?_) (fun h85 => ?_)
        ·clear h85
         refine wp_region_M (fun k => k ∈ ([b25] : List Nat)) [(0, 1), (1, 1), (2, 1), (4, 0), (5, 0), (6, 2), (3, 3), (7, 3), (8, 3), (9, 1), (10, 1)] (by kernel_rfl) (by kernel_rfl) HM29.out ?_
         intro W86 hm87
         have HM88 := Lib.hid hm87
         clear hm87
         refine wS1 [0, 1] ?_
         repeat (go_big_quiet_step (fail))
         refine wpQuiet_nil ?_
         refine wpS_loadA (i := 2) (d := some 75) (cells := y.m.enc) rfl (by rfl) rfl rfl (fun k u hu => ((HM88.out.cellL 0 rfl (4 + k)).trans (y.at_m k u hu))) Tryz.underlying46 rfl (by rw [InM.enc_len y.hm]; kernel_rfl) rfl ?_
         simp only [Act.put, pA, pB, pC]
         refine wS0 [4, 5] ?_
         repeat (go_big_quiet_step (fail))
         refine wpQuiet_nil ?_
         refine wpS_loadA2 (i := 6) (d := some 79) (cells := y.m.enc) rfl (by rfl) rfl rfl (by simp) (fun k u hu => ((HM88.out.cellL 0 rfl (4 + k)).trans (y.at_m k u hu))) Tryz.underlying46 rfl (by rw [InM.enc_len y.hm]; kernel_rfl) rfl ?_
         simp only [Act.put, pA, pB, pC]
         refine wpS_doesU2 (i := 3) (d := some 76) (rem := [_, _]) rfl (by rfl) rfl Tryz.call13 (handle_d bk.d s bk.pv bk.pq bk.po bk.pc (oldT W0) y.m ycl (fun W H h => OldA.row h hycl.out) (by have := row_len hycl.out; have := hfit.out.2.1; omega) y.hm (lokD hok)) rfl rfl HM88.out [2, 2, 2, 2, 2, 2] rfl (covS_box 0 rfl covS_nil) (fun _ => rfl) rfl ?_
         rintro u92 W90 hm89 hg91
         obtain ⟨s2, hst⟩ : ∃ x, (handleD s (y.m.mm ycl)).1 = x := ⟨_, rfl⟩
         rw [hst] at hm89
         have hnw : s2.now ≤ ((k + 1 : Nat) : Int) := by rw [← hst, (up_handleD s _).now]; omega
         have hst := Lib.hid hst
         obtain ⟨ms, hms⟩ : ∃ x, (handleD s (y.m.mm ycl)).2 = x := ⟨_, rfl⟩
         rw [hms] at hm89
         have hsm : SmallC ms := hms ▸ smallC_handle s _
         have hml : ms.length ≤ 1000 := by rw [← hms]; exact Nat.le_trans (handle_len s _) (by decide)
         have hms := Lib.hid hms
         have hsm := Lib.hid hsm
         have hml := Lib.hid hml
         obtain ⟨va, hva⟩ : ∃ v, u92 = v := ⟨_, rfl⟩
         rw [hva] at hm89 ⊢
         clear hva
         have HM93 := Lib.hid hm89
         clear hm89
         simp only [Act.put, pA, pB, pC]
         refine wpS_doesU2 (i := 7) (d := some 80) (rem := [_, _, _, _, _, _, _]) rfl (by rfl) rfl Tryz.call14 (rhandle_d mr s (oldT W0) y.m ycl (fun W H h => OldA.row h hycl.out) (by have := row_len hycl.out; have := hfit.out.2.1; omega) y.hm) rfl rfl HM93.out [8, 1] rfl (covS_box 6 rfl covS_nil) (fun _ => rfl) rfl ?_
         rintro u97 W95 hm94 hg96
         rw [hst.out, hms.out] at hm94
         obtain ⟨vb, hvb⟩ : ∃ v, u97 = v := ⟨_, rfl⟩
         rw [hvb] at hm94 ⊢
         clear hvb
         have HM98 := Lib.hid hm94
         clear hm94
         simp only [Act.put, pA, pB, pC]
         refine wpS_does2 (i := 8) (d := some 81) (rem := [_, _, _, _, _, _, _, _]) (out := [_, _, _, _, _, _, _, _, _, _]) rfl (by rfl) rfl Tryz.call12 (sameM_d va vb ms hsm.out hml.out) rfl rfl HM98.out [3, 0] rfl (covS_box 7 rfl covS_nil) rfl rfl ?_
         rintro W100 hm99 hg101
         have HM102 := Lib.hid hm99
         clear hm99
         simp only [Act.put, pA, pB, pC]
         refine wS1 [9, 10] ?_
         repeat (go_big_quiet_step (fail))
         refine wpQuiet_nil ?_
         refine wpS_nil ?_
         refine block_normal ?_
         refine then_normal ?_
         refine ⟨by kernel_rfl, ?_⟩
         exact ⟨s2, hnw, rfl, (Mem.only (M := [_, _, _, _, _, _, _, _]) HM102.out [3, 8, 2, 2, 2, 2, 2, 2] rfl)⟩
        ·clear h85
         have hfin := Lib.hid (clk_fine HM29.out 7 rfl)
         refine wp_region_M (fun k => k ∈ ([b25] : List Nat)) [(0, 1), (1, 1), (2, 1), (3, 1), (4, 1), (6, 0), (7, 0), (8, 2), (9, 0), (10, 2), (5, 3), (11, 3), (12, 3), (13, 1), (14, 1)] (by kernel_rfl) (by kernel_rfl) HM29.out ?_
         intro W103 hm104
         have HM105 := Lib.hid hm104
         clear hm104
         refine wS1 [0, 1] ?_
         repeat (go_big_quiet_step (fail))
         refine wpQuiet_nil ?_
         refine wpS_load1 (i := 2) (d := some 40) (u := .slice y.pp y.pn y.pc) rfl (by rfl) rfl rfl ((HM105.out.cellL 0 rfl 66).trans y.at_p) Tryz.underlying36 rfl rfl ?_
         simp only [Act.put, pA, pB, pC]
         refine wS1 [3] ?_
         repeat (go_big_quiet_step (fail))
         refine wpQuiet_nil ?_
         refine wpS_load1 (i := 4) (d := some 42) (u := .int .u64 y.draw) rfl (by rfl) rfl rfl ((HM105.out.cellL 0 rfl 67).trans y.at_d) Tryz.underlying47 rfl rfl ?_
         simp only [Act.put, pA, pB, pC]
         refine wS0 [6, 7] ?_
         repeat (go_big_quiet_step (fail))
         refine wpQuiet_nil ?_
         refine wpS_load12 (i := 8) (d := some 46) (u := .slice y.pp y.pn y.pc) rfl (by rfl) rfl rfl (by simp) ((HM105.out.cellL 0 rfl 66).trans y.at_p) Tryz.underlying36 rfl rfl ?_
         simp only [Act.put, pA, pB, pC]
         refine wS0 [9] ?_
         repeat (go_big_quiet_step (fail))
         refine wpQuiet_nil ?_
         refine wpS_load12 (i := 10) (d := some 48) (u := .int .u64 y.draw) rfl (by rfl) rfl rfl (by simp) ((HM105.out.cellL 0 rfl 67).trans y.at_d) Tryz.underlying47 rfl rfl ?_
         simp only [Act.put, pA, pB, pC]
         refine wpS_doesU3 (i := 5) (d := some 43) (rem := [_, _]) rfl (by rfl) rfl Tryz.call15 (tick_d bk.d s bk.pv bk.pq bk.po bk.pc (.slice y.pp y.pn y.pc) y.draw (oldT W0) yps (fun W H h => OldA.row h hyps.out) (by have := row_len hyps.out; have := hfit.out.2.2; omega) (lokD hok) (by have := hfit.out.1; omega) y.d0 y.d1) rfl rfl rfl HM105.out [2, 2, 2, 2, 2, 2] rfl (covS_box 0 rfl covS_nil) (fun _ => rfl) rfl ?_
         rintro u109 W107 hm106 hg108
         obtain ⟨s2, hst⟩ : ∃ x, (tickD s yps y.draw).1 = x := ⟨_, rfl⟩
         rw [hst] at hm106
         have hnw : s2.now ≤ ((k + 1 : Nat) : Int) := by rw [← hst, (up_tickD s yps y.draw).now]; show s.now + 1 ≤ _; omega
         have hst := Lib.hid hst
         obtain ⟨ms, hms⟩ : ∃ x, (tickD s yps y.draw).2 = x := ⟨_, rfl⟩
         rw [hms] at hm106
         have hsm : SmallC ms := hms ▸ smallC_tick s _ _
         have hml : ms.length ≤ 1000 := by rw [← hms]; exact Nat.le_trans (tick_len hfin.out _ _) (by decide)
         have hms := Lib.hid hms
         have hsm := Lib.hid hsm
         have hml := Lib.hid hml
         obtain ⟨va, hva⟩ : ∃ v, u109 = v := ⟨_, rfl⟩
         rw [hva] at hm106 ⊢
         clear hva
         have HM110 := Lib.hid hm106
         clear hm106
         simp only [Act.put, pA, pB, pC]
         refine wpS_doesU3 (i := 11) (d := some 49) (rem := [_, _, _, _, _, _, _]) rfl (by rfl) rfl Tryz.call16 (rtick_d mr s (.slice y.pp y.pn y.pc) y.draw (oldT W0) yps (fun W H h => OldA.row h hyps.out) (by have := row_len hyps.out; have := hfit.out.2.2; omega) (by have := hfit.out.1; omega) y.d0 y.d1) rfl rfl rfl HM110.out [8, 1] rfl (covS_box 6 rfl covS_nil) (fun _ => rfl) rfl ?_
         rintro u114 W112 hm111 hg113
         rw [hst.out, hms.out] at hm111
         obtain ⟨vb, hvb⟩ : ∃ v, u114 = v := ⟨_, rfl⟩
         rw [hvb] at hm111 ⊢
         clear hvb
         have HM115 := Lib.hid hm111
         clear hm111
         simp only [Act.put, pA, pB, pC]
         refine wpS_does2 (i := 12) (d := some 50) (rem := [_, _, _, _, _, _, _, _]) (out := [_, _, _, _, _, _, _, _, _, _]) rfl (by rfl) rfl Tryz.call12 (sameM_d va vb ms hsm.out hml.out) rfl rfl HM115.out [3, 0] rfl (covS_box 7 rfl covS_nil) rfl rfl ?_
         rintro W117 hm116 hg118
         have HM119 := Lib.hid hm116
         clear hm116
         simp only [Act.put, pA, pB, pC]
         refine wS1 [13, 14] ?_
         repeat (go_big_quiet_step (fail))
         refine wpQuiet_nil ?_
         refine wpS_nil ?_
         refine block_normal ?_
         refine then_normal ?_
         refine ⟨by kernel_rfl, ?_⟩
         exact ⟨s2, hnw, rfl, (Mem.only (M := [_, _, _, _, _, _, _, _]) HM119.out [3, 8, 2, 2, 2, 2, 2, 2] rfl)⟩
    ·rintro vs2 W2' ⟨s2, hnw, e11, hm⟩
     simp only [putAll, List.map_cons, List.map_nil, Act.put, List.setIfInBounds_toArray, List.set_cons_succ, List.set_cons_zero]
     rw [e11]
     clear e11
     replace hm := rd_open hm
     obtain ⟨hok2, pv, pq, po, pc, hm⟩ := hm
     have HM120 := Lib.hid hm
     clear hm
     refine then_normal ?_
     refine wp_seq ?_
     refine wp_region_M (fun k => k ∈ ([mr, b25] : List Nat)) [(0, 1), (1, 1), (2, 1), (3, 1), (5, 0), (6, 0), (7, 0), (8, 2), (4, 3), (9, 1), (10, 1), (11, 1), (12, 1), (14, 0), (15, 0), (16, 0), (17, 2), (13, 3), (18, 1), (19, 1), (20, 1), (21, 1), (23, 0), (24, 0), (25, 0), (26, 2), (22, 3), (27, 1), (28, 1), (29, 1), (30, 1), (32, 0), (33, 0), (34, 0), (35, 2), (31, 3), (36, 3), (37, 3), (38, 1), (39, 1), (40, 1), (41, 1), (42, 1), (43, 1), (44, 1), (46, 0), (47, 0), (48, 0), (49, 2), (50, 0), (51, 0), (52, 2), (45, 3), (53, 3), (54, 1), (55, 1)] (by kernel_rfl) (by kernel_rfl) HM120.out ?_
     intro W121 hm122
     have HM123 := Lib.hid hm122
     clear hm122
     refine wS1 [0, 1, 2, 3] ?_
     repeat (go_big_quiet_step (fail))
     refine wpQuiet_nil ?_
     refine wS0 [5, 6, 7] ?_
     repeat (go_big_quiet_step (fail))
     refine wpQuiet_nil ?_
     have Crd := Mem.cell HM123.out 0 rfl
     refine wS2 [8] ?_
     repeat (go_big_quiet_step (fail))
     refine wpQuiet_nil ?_
     clear Crd
     refine wpS_does1 (i := 4) (d := some 87) (rem := [_, _, _, _, _, _, _, _, _, _, _]) (out := [_, _, _, _, _, _, _, _, _, _, _, _]) rfl (by rfl) rfl Tryz.call17 (inc_d bk.d s2 bk.pv bk.pq bk.po bk.pc) rfl HM123.out [7] rfl (covS_box 0 rfl (covS_box 5 rfl covS_nil)) rfl rfl ?_
     rintro W125 hm124 hg126
     have HM127 := Lib.hid hm124
     clear hm124
     simp only [Act.put, pA, pB, pC]
     refine wS1 [9, 10, 11, 12] ?_
     repeat (go_big_quiet_step (fail))
     refine wpQuiet_nil ?_
     refine wS0 [14, 15, 16] ?_
     repeat (go_big_quiet_step (fail))
     refine wpQuiet_nil ?_
     have Crd := Mem.cell HM127.out 1 rfl
     refine wS2 [17] ?_
     repeat (go_big_quiet_step (fail))
     refine wpQuiet_nil ?_
     clear Crd
     refine wpS_does1 (i := 13) (d := some 96) (rem := [_, _, _, _, _, _, _, _, _, _, _]) (out := [_, _, _, _, _, _, _, _, _, _, _, _]) rfl (by rfl) rfl Tryz.call18 (now_d bk.d s2 bk.pv bk.pq bk.po bk.pc) rfl HM127.out [0] rfl (covS_box 0 rfl (covS_box 5 rfl covS_nil)) rfl rfl ?_
     rintro W129 hm128 hg130
     have HM131 := Lib.hid hm128
     clear hm128
     simp only [Act.put, pA, pB, pC]
     refine wS1 [18, 19, 20, 21] ?_
     repeat (go_big_quiet_step (fail))
     refine wpQuiet_nil ?_
     refine wS0 [23, 24, 25] ?_
     repeat (go_big_quiet_step (fail))
     refine wpQuiet_nil ?_
     have Crd := Mem.cell HM131.out 1 rfl
     refine wS2 [26] ?_
     repeat (go_big_quiet_step (fail))
     refine wpQuiet_nil ?_
     clear Crd
     refine wpS_does1 (i := 22) (d := some 105) (rem := [_, _, _, _, _, _, _, _, _, _, _]) (out := [_, _, _, _, _, _, _, _, _, _, _, _]) rfl (by rfl) rfl Tryz.call19 (over_d bk.d s2 bk.pv bk.pq bk.po bk.pc) rfl HM131.out [0] rfl (covS_box 0 rfl (covS_box 5 rfl covS_nil)) rfl rfl ?_
     rintro W133 hm132 hg134
     have HM135 := Lib.hid hm132
     clear hm132
     simp only [Act.put, pA, pB, pC]
     refine wS1 [27, 28, 29, 30] ?_
     repeat (go_big_quiet_step (fail))
     refine wpQuiet_nil ?_
     refine wS0 [32, 33, 34] ?_
     repeat (go_big_quiet_step (fail))
     refine wpQuiet_nil ?_
     have Crd := Mem.cell HM135.out 1 rfl
     refine wS2 [35] ?_
     repeat (go_big_quiet_step (fail))
     refine wpQuiet_nil ?_
     clear Crd
     refine wpS_doesU1 (i := 31) (d := some 114) (rem := [_, _, _, _, _, _, _, _, _, _]) rfl (by rfl) rfl Tryz.call21 (all_d bk.d s2 bk.pv bk.pq bk.po bk.pc) rfl HM135.out [0, 7] rfl (covS_box 0 rfl (covS_box 5 rfl covS_nil)) (fun _ => rfl) rfl ?_
     rintro u139 W137 hm136 hg138
     obtain ⟨va, hva⟩ : ∃ v, u139 = v := ⟨_, rfl⟩
     rw [hva] at hm136 ⊢
     clear hva
     have HM140 := Lib.hid hm136
     clear hm136
     simp only [Act.put, pA, pB, pC]
     refine wpS_doesU1 (i := 36) (d := some 119) (rem := [_, _, _, _, _, _, _, _, _, _, _, _]) rfl (by rfl) rfl Tryz.call22 (rall_d pv s2.V) rfl HM140.out [4] rfl (covS_box 3 rfl (covS_box 7 rfl covS_nil)) (fun _ => rfl) rfl ?_
     rintro u144 W142 hm141 hg143
     obtain ⟨vb, hvb⟩ : ∃ v, u144 = v := ⟨_, rfl⟩
     rw [hvb] at hm141 ⊢
     clear hvb
     have HM145 := Lib.hid hm141
     clear hm141
     simp only [Act.put, pA, pB, pC]
     refine wpS_does2 (i := 37) (d := some 120) (rem := [_, _, _, _, _, _, _, _, _, _, _, _]) (out := [_, _, _, _, _, _, _, _, _, _, _, _, _, _]) rfl (by rfl) rfl Tryz.call20 (same_d va vb (saidV s2.V) (rowT elemCl va (saidV s2.V)) (rowT elemCl vb (saidV s2.V)) (fun W H h => rowAt_src (rowT_reads W H h)) (fun W H h => rowAt_src (rowT_reads W H h)) (Nat.le_trans (saidUp_len _ 8) (by decide))) rfl rfl HM145.out [2, 0] rfl (covS_box 3 rfl (covS_box 7 rfl covS_nil)) rfl rfl ?_
     rintro W147 hm146 hg148
     have HM149 := Lib.hid hm146
     clear hm146
     simp only [Act.put, pA, pB, pC]
     have cn : World.cell? _ ⟨b25, 1, none⟩ = some (.int .i64 y.n) := HM149.out.cellL 9 rfl 1
     refine wS1 [38, 39, 40, 41, 42, 43, 44] ?_
     repeat (go_big_quiet_step (fail))
     refine wpQuiet_nil ?_
     refine wS0 [46, 47, 48] ?_
     repeat (go_big_quiet_step (fail))
     refine wpQuiet_nil ?_
     have Crd := Mem.cell HM149.out 5 rfl
     refine wS2 [49] ?_
     repeat (go_big_quiet_step (fail))
     refine wpQuiet_nil ?_
     clear Crd
     refine wS0 [50, 51] ?_
     repeat (go_big_quiet_step (fail))
     refine wpQuiet_nil ?_
     have cn : World.cell? _ ⟨b25, 1, none⟩ = some (.int .i64 y.n) := HM149.out.cellL 9 rfl 1
     refine wS2 [52] ?_
     repeat (go_big_quiet_step (fail))
     refine wpQuiet_nil ?_
     refine wpS_does2 (i := 45) (d := some 128) (rem := [_, _, _, _, _, _, _, _, _, _, _, _]) (out := [_, _, _, _, _, _, _, _, _, _, _, _, _, _]) rfl (by rfl) rfl Tryz.call23 (of_d bk.d s2 bk.pv bk.pq bk.po bk.pc y.n) rfl rfl HM149.out [3, 3] rfl (covS_box 3 rfl (covS_box 7 rfl covS_nil)) rfl rfl ?_
     rintro W151 hm150 hg152
     have HM153 := Lib.hid hm150
     clear hm150
     simp only [Act.put, pA, pB, pC]
     refine wpS_does2 (i := 53) (d := some 136) (rem := [_, _, _, _, _, _, _, _, _, _, _, _, _]) (out := [_, _, _, _, _, _, _, _, _, _, _, _, _, _]) rfl (by rfl) rfl Tryz.call24 (rof_d pv s2.V y.n) rfl rfl HM153.out [4] rfl (covS_box 4 rfl (covS_box 8 rfl covS_nil)) rfl rfl ?_
     rintro W155 hm154 hg156
     have HM157 := Lib.hid hm154
     clear hm154
     simp only [Act.put, pA, pB, pC]
     refine wS1 [54, 55] ?_
     repeat (go_big_quiet_step (fail))
     refine wpQuiet_nil ?_
     refine wpS_nil ?_
     refine then_normal ?_
     refine wp_cond_false rfl ?_
     refine wp_skip ?_
     refine block_normal ?_
     refine then_normal ?_
     refine wp_region_N [(0, 1), (1, 1)] (by kernel_rfl) ?_
     refine wS1 [0, 1] ?_
     repeat (go_big_quiet_step (fail))
     refine wpQuiet_nil ?_
     refine wpS_nil ?_
     refine then_normal ?_
     refine ⟨by kernel_rfl, ?_⟩
     exact ⟨cs.length - (k + 1), by omega, k + 1, s2, rfl, rfl, hk1, hnw, rd_close hok2 (Mem.only (M := [_, _, _, _, _, _, _, _, _, _, _]) HM157.out [5, 0, 4, 4, 4, 5, 0, 0, 3, 3, 3] rfl)⟩
   ·clear h19
    refine wp_exit ?_
    refine then_exit (then_exit (block_exit ?_))
    refine then_normal ?_
    refine wp_seq ?_
    refine wp_region_N [(0, 3), (1, 1)] (by kernel_rfl) ?_
    refine wpS_does0 (i := 0) (d := some 140) (rem := [_, _, _, _, _, _, _]) (out := [_, _, _, _, _, _, _]) rfl (by rfl) rfl Tryz.call5 (awake_d)  HM18.out [] rfl covS_nil rfl rfl ?_
    rintro W159 hm158 -
    have HM160 := Lib.hid hm158
    clear hm158
    simp only [Act.put, pA, pB, pC]
    refine wS1 [1] ?_
    repeat (go_big_quiet_step (fail))
    refine wpQuiet_nil ?_
    refine wpS_nil ?_
    refine then_normal ?_
    refine wp_ret ?_
    refine bodyPost_ret (results_tmp rfl _ _ _) rfl ?_
    exact does_ret (Mem.only (M := [_]) HM160.out [1] rfl) rfl rfl
  ·skip
   refine wp_region_N [(0, 1), (1, 1), (2, 3), (3, 1), (4, 1), (5, 3), (6, 1), (7, 1)] (by kernel_rfl) ?_
   refine wS1 [0, 1] ?_
   repeat (go_big_quiet_step (fail))
   refine wpQuiet_nil ?_
   refine wpS_does2 (i := 2) (d := some 18) (rem := [_]) (out := [_]) rfl (by rfl) rfl Tryz.call6 (new_bad me inc hval) rfl rfl HM9.out [] rfl covS_nil rfl rfl ?_
   rintro W162 hm161 -
   have HM163 := Lib.hid hm161
   clear hm161
   simp only [Act.put, pA, pB, pC]
   refine wS1 [3, 4] ?_
   repeat (go_big_quiet_step (fail))
   refine wpQuiet_nil ?_
   refine wpS_does2 (i := 5) (d := some 21) (rem := [_]) (out := [_]) rfl (by rfl) rfl Tryz.call7 (rnew_bad me inc hval) rfl rfl HM163.out [] rfl covS_nil rfl rfl ?_
   rintro W165 hm164 -
   have HM166 := Lib.hid hm164
   clear hm164
   simp only [Act.put, pA, pB, pC]
   refine wS1 [6, 7] ?_
   repeat (go_big_quiet_step (fail))
   refine wpQuiet_nil ?_
   refine wpS_nil ?_
   refine then_normal ?_
   refine wp_seq ?_
   refine wp_seq ?_
   refine wp_region_N [(0, 1), (1, 1), (2, 1), (3, 1), (4, 1)] (by kernel_rfl) ?_
   refine wS1 [0, 1, 2, 3, 4] ?_
   repeat (go_big_quiet_step (fail))
   refine wpQuiet_nil ?_
   refine wpS_nil ?_
   refine then_normal ?_
   refine wp_cond_false rfl ?_
   refine wp_skip ?_
   refine then_normal ?_
   refine wp_seq ?_
   refine wp_seq ?_
   refine wp_region_N [(0, 1), (1, 1)] (by kernel_rfl) ?_
   refine wS1 [0, 1] ?_
   repeat (go_big_quiet_step (fail))
   refine wpQuiet_nil ?_
   refine wpS_nil ?_
   refine then_normal ?_
   refine wp_cond_true rfl ?_
   refine wp_seq ?_
   refine wp_region_N [(0, 3), (1, 1)] (by kernel_rfl) ?_
   refine wpS_does0 (i := 0) (d := some 29) (rem := [_]) (out := [_]) rfl (by rfl) rfl Tryz.call5 (awake_d)  HM166.out [] rfl covS_nil rfl rfl ?_
   rintro W168 hm167 -
   have HM169 := Lib.hid hm167
   clear hm167
   simp only [Act.put, pA, pB, pC]
   refine wS1 [1] ?_
   repeat (go_big_quiet_step (fail))
   refine wpQuiet_nil ?_
   refine wpS_nil ?_
   refine then_normal ?_
   refine wp_ret ?_
   refine then_ret ?_
   refine bodyPost_ret (results_tmp rfl _ _ _) rfl ?_
   exact does_ret (Mem.only (M := [_]) HM169.out [0] rfl) rfl rfl
theorem Does.givesOld {pr : Program} {f : FuncId} {args : Array Value} {v : Value} {W : World} (h : Does pr f args [oldT W] v [oldT W]) : Gives pr f args W v :=
 (h W (fun k => k < W.heap.size) ⟨_, fun _ => False, oldA_self W, fun _ h => h, fun _ _ h => h, fun k => by simp⟩).mono fun _ W' ⟨he, hs⟩ => ⟨he, ⟨W', SEnd.ended (SEnd.noOld hs)⟩, rfl⟩
theorem playsLaw6 (me inc : Int) (v : Value) (cs : List CallV) (W : World) (hv : RowAt elemCall W v cs) (hq : ∀ y ∈ cs, CallQ W y) : Gives Tryz.prog 3 #[.int .i64 me, .int .i64 inc, v] W (.bool true) := (plays_d me inc W v cs hv hq).givesOld
end Go.Proofs.YtjbihgfdgaiecaaGreat

namespace Go.Proofs.YtjbihgfdgaiecaaGreat.lawPlays6
open Go Go.ChangeShapes Go.WideShapes Go.ChangeAt Go.RowKit Go.Joins
set_option maxRecDepth 100000 in
theorem contract (H : Type) (enc : TypeId × Value → H) (W : World) (base : Nat) (args : Array Value) (ds gs : List (DataW H)) (before : List MemPlace)
  (hval : ∀ (j : Nat) t v, Tryz.f3.params[j]? = some t → args[j]? = some v → Value.okWide Tryz.prog W .any base t v)
  (hW : DataW.Whole enc Tryz.prog Tryz.f3.params.toList Rows.swimPlaysSpec.vars false W args.toList ds gs before)
  (hsz : (DataW.weightsEach Tryz.prog (Tryz.f3.params.toList ++ (OpenSpec.ofChange Rows.swimPlaysSpec).bare.plain.varTypes Tryz.prog) (ds ++ gs)).all (· ≤ reachBytes) = true) :
  Calls Tryz.prog 3 args W fun e W' => ∃ v, e = .returned v ∧ Rows.swimPlaysSpec.post enc Tryz.prog Tryz.f3 false true false false W args v W' := by
 have hW' := hW
 obtain ⟨p, q, hA0, hV, rfl, hfz, hnd⟩ := hW
 have hA : DataW.TrodAll enc Tryz.prog W 0 (fun _ => true) true Tryz.f3.params.toList args.toList ds p := hA0
 have hA' := hA
 rw [Tryz.params3] at hA hval
 obtain ⟨v0, vs0, d0, ds0, p0, q0, e0, rfl, rfl, g0, r0⟩ := trodAll_cons hA
 obtain ⟨v1, vs1, d1, ds1, p1, q1, e1, rfl, rfl, g1, r1⟩ := trodAll_cons r0
 obtain ⟨v2, vs2, d2, ds2, p2, q2, e2, rfl, rfl, g2, r2⟩ := trodAll_cons r1
 obtain ⟨e3, rfl, rfl⟩ := trodAll_nil r2
 obtain rfl : args = #[v0, v1, v2] := by
  apply Array.toList_inj.1
  rw [e0, e1, e2, e3]
 obtain ⟨rfl, rfl⟩ := trodVars_none hV
 obtain ⟨n0, rfl, _, _, _⟩ := open_int Tryz.underlying3 (hval 0 _ v0 rfl rfl) g0
 obtain ⟨n1, rfl, _, _, _⟩ := open_int Tryz.underlying3 (hval 1 _ v1 rfl rfl) g1
 obtain ⟨l2, hl2, hq2, hd2⟩ := open_srcQ readCallQ (hval 2 _ v2 rfl rfl) g2
 have hm2 := reach_srcE readCall (j := 2) hsz (by kernel_rfl) rfl hd2
 have hlt := fun (x : MemPlace) hx => hW'.lt x hx
 simp only [List.append_nil] at hW' hlt hA'
 refine Calls.mono (playsLaw6 n0 n1 v2 l2 W hl2.1 hq2) fun e W' ⟨he, x, hx⟩ => ?_
 subst he
 subst hx
 exact ⟨_, rfl, post_law (pv := []) hW' x.below (trodAll_cons_mk (shut_bool Tryz.underlying4 _) trodAll_mk0) (below_trodAll laidOut x.below (by kernel_rfl) hA' hlt) rfl (by simp only [List.append_nil])⟩
theorem reads (os : Os) {H : Type} (enc : TypeId × Value → H) : ∃ places, DataW.whole enc Tryz.prog ((World.laidAll Tryz.prog os Rows.swimPlaysRow.laid).forCall (fun _ _ => 0) ⟨#[], #[.int .i64 0, .int .i64 0, .slice none 0 0], []⟩).memory Tryz.f3.params.toList Rows.swimPlaysSpec.vars false (#[.int .i64 0, .int .i64 0, .slice none 0 0] : Array Value).toList 8 = some ([.lit (.int .i64 0), .lit (.int .i64 0), .nil], [], places) :=
 ⟨[], by kernel_rfl⟩
set_option maxRecDepth 100000 in
theorem lifted (os : Os) (started : os.Started) (H : Type) (enc : TypeId × Value → H) (F : Stop.Interp) :
  ReturnsInHanded {} Tryz.checked os 3 .any ((OpenSpec.ofChange Rows.swimPlaysSpec).preRow enc Tryz.prog Tryz.f3 Rows.swimPlaysRow.domain false Rows.swimPlaysRow.laid) (((OpenSpec.ofChange Rows.swimPlaysSpec).at F).post enc Tryz.prog Tryz.f3 false true false false) := by
 obtain ⟨places, hx⟩ := reads os enc
 refine returnsInHanded_of_row (C := Tryz.checked) (s := OpenSpec.ofChange Rows.swimPlaysSpec) own started (by kernel_rfl) Tryz.func3
  (witness_row_at (enc := enc) (C := Tryz.checked) false (World.laidAll Tryz.prog os Rows.swimPlaysRow.laid) #[.int .i64 0, .int .i64 0, .slice none 0 0] (World.laidAll_os _ _ _) (by kernel_rfl) (by kernel_rfl) (by kernel_rfl)
   (OpenSpec.preRow_of_cond 8 hx (by kernel_rfl) (fun k hk => by cases hk) (by kernel_rfl) (laidMet_laidAll _ (by kernel_rfl) (by kernel_rfl)))) ?_
 intro W base args ds gs before hval hW _ _ hsz _ _ _
 exact contract H enc W base args ds gs before hval hW hsz
theorem said : Rows.SwimPlaysSaid :=
 OpenClaim.holds_of_cond 3 Tryz.f3 rfl rfl rfl rfl rfl rfl rfl ⟨rfl, rfl, rfl, rfl, rfl⟩ rfl rfl rfl rfl rfl (by kernel_rfl) Tryz.func3 (by kernel_rfl)
  (of_decide_eq_true (by kernel_rfl)) (by unfold Func.isWrapper; first | (rw [if_pos (by decide +kernel)]; kernel_rfl) | (rw [if_neg (by decide +kernel)]; exact ⟨rfl, rfl⟩))
  (fun os started H enc _ F => by rw [OpenClaim.pre_eq_preRow]; exact lifted os started H enc F)
end Go.Proofs.YtjbihgfdgaiecaaGreat.lawPlays6
