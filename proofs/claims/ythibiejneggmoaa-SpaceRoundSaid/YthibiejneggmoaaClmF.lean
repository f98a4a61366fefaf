/- ClmF: ClmF. -/
import Derived.Test.YthibiejneggmoaaClmD
namespace Go.Proofs.Ythibiejneggmoaa
section
open Go Go.RowKit Go.BigFrame
def tB (l : List Int) (k : Nat) : List Bool := (List.range 8).map fun j => isPeer (l.take k) (-1) j
theorem tB_len (l : List Int) (k : Nat) : (tB l k).length = 8 := by simp [tB]
theorem tB_at (l : List Int) (k : Nat) {j : Nat} (h : j < 8) : (tB l k)[j]? = some (isPeer (l.take k) (-1) j) := by simp [tB, h]
theorem tB_zero (l : List Int) : tB l 0 = List.replicate 8 false := rfl
theorem tB_miss {l : List Int} {k : Nat} {x : Int} (h : l[k]? = some x) (hx : ¬ (0 ≤ x ∧ x < 8)) : tB l (k + 1) = tB l k := by
  unfold tB
  refine List.map_congr_left fun j hj => ?_
  have hj8 := List.mem_range.1 hj
  rw [isPeer_up h, if_neg (by omega)]
theorem tB_hit {l : List Int} {k j : Nat} (h : l[k]? = some (j : Int)) (hj : j < 8) : tB l (k + 1) = (tB l k).set j true := by
  apply List.ext_getElem?
  intro i
  rw [List.getElem?_set]
  by_cases hi : i < 8
  · rw [tB_at _ _ hi, isPeer_up h]
    by_cases e : j = i
    · subst e
      rw [if_pos rfl, if_pos rfl, if_pos (by rw [tB_len]; exact hi)]
      have : (((j : Nat) : Int) == -1) = false := beq_eq_false_iff_ne.2 (by omega)
      simp [this]
    · rw [if_neg (by omega), if_neg e, tB_at _ _ hi]
  · rw [List.getElem?_eq_none (by rw [tB_len]; omega), if_neg (by omega), List.getElem?_eq_none (by rw [tB_len]; omega)]
theorem tB_end (l : List Int) {j : Nat} (h : j < 8) : (tB l l.length)[j]? = some (isPeer l (-1) j) := by
  rw [tB_at _ _ h, List.take_length]
theorem peersOf_asc (l : List Int) : Asc (peersOf l (-1)) := by
  unfold Asc nodesK
  rw [List.filter_map]
  conv => lhs; unfold peersOf peersF
  congr 1
  refine List.filter_congr fun j hj => ?_
  have hj8 := List.mem_range.1 hj
  rw [Bool.eq_iff_iff, Function.comp_apply, List.contains_iff_mem, peersOf_mem]
  unfold isPeer
  simp only [Bool.and_eq_true, List.contains_iff_mem, Bool.not_eq_true', beq_eq_false_iff_ne, ne_eq]
  constructor
  · rintro ⟨h1, h2⟩
    exact ⟨⟨by omega, by omega⟩, h1, h2⟩
  · rintro ⟨_, h1, h2⟩
    exact ⟨h1, h2⟩
theorem map_take_succ {M : List Int} (f : Int → Int) {k : Nat} {m : Int} (h : M[k]? = some m) : (M.take (k + 1)).map f = (M.take k).map f ++ [f m] := by
  rw [List.take_add_one, h]
  simp
set_option maxHeartbeats 4000000 in
set_option maxRecDepth 100000 in
theorem members_d (R : At) (v : Value) (l : List Int) (hR : ∀ W H, R.p W H → RowAt elemI W v l) (hl : l.length ≤ 1000) : DoesU Try.prog 15 #[v] [R] (fun u => [rowT elemI u (peersOf l (-1)), R]) := by
  intro w H hp
  have HM0 := Lib.hid (mem_refl hp)
  clear hp
  obtain ⟨p, cap, rfl, -⟩ := (HM0.out.row 0 rfl hR).form
  go_enter Try.func15, Try.ntmps15
  refine wp_seq ?_
  refine wp_region_N [(0, 1)] (by kernel_rfl) ?_
  refine wpS_this [0] rfl (by kernel_rfl) (by simp only [pickL, nthL, List.cons_append, List.nil_append]; rfl) ?_
  repeat (go_big_quiet_step (fail))
  refine wpQuiet_nil ?_
  refine wpS_nil ?_
  refine then_normal ?_
  refine wp_seq ?_
  refine wp_region_N [(0, 3)] (by kernel_rfl) ?_
  refine wpS_alloc (i := 0) (dd := 3) (z := aB (List.replicate 8 false)) (cs := ((List.replicate 8 false).map bV).toArray) rfl (by rfl) rfl (by kernel_rfl) rfl HM0.out covS_nil rfl ?_
  rintro tb W2 hm1 -
  have HM3 := Lib.hid hm1
  clear hm1
  simp only [Act.put, List.setIfInBounds_toArray, List.set_cons_succ, List.set_cons_zero]
  refine wpS_nil ?_
  refine then_normal ?_
  refine wp_seq ?_
  refine wp_seq ?_
  refine wp_region_N [(0, 1), (1, 1), (2, 1)] (by kernel_rfl) ?_
  refine wpS_this [0, 1, 2] rfl (by kernel_rfl) (by simp only [pickL, nthL, List.cons_append, List.nil_append]; rfl) ?_
  repeat (go_big_quiet_step (fail))
  refine wpQuiet_nil ?_
  refine wpS_nil ?_
  refine then_normal ?_
  refine wp_block ?_
  refine wp_loop_F [5, 11, 12, 13, 14, 15, 16, 17, 18, 19] (fun n vs W' => ∃ k : Nat, n = l.length - k ∧ vs 11 = .int .i64 (k : Int) ∧ k ≤ l.length ∧ Mem [R, arrB tb 45 (tB l k)] H w W') (n0 := l.length) ?_ ?_
  · refine ⟨0, rfl, rfl, Nat.zero_le _, ?_⟩
    rw [tB_zero]
    exact (Mem.only (M := [_, _]) HM3.out [1, 0] rfl)
  rintro n vs W' ⟨k, rfl, e11, hk, hm⟩
  simp only [putAll, List.map_cons, List.map_nil, Act.put, List.setIfInBounds_toArray, List.set_cons_succ, List.set_cons_zero]
  rw [e11]
  clear e11
  have HM4 := Lib.hid hm
  clear hm
  refine wp_seq ?_
  refine wp_region_N [(0, 1)] (by kernel_rfl) ?_
  refine wpS_this [0] rfl (by kernel_rfl) (by simp only [pickL, nthL, List.cons_append, List.nil_append]; rfl) ?_
  repeat (go_big_quiet_step (fail))
  refine wpQuiet_nil ?_
  refine wpS_nil ?_
  refine then_normal ?_
  refine wp_seq ?_
  refine wp_cond_split rfl (fun h5 => ?_) (fun h5 => ?_)
  · have hk1 : k + 1 ≤ l.length := by have : (k : Int) < ((l.length : Nat) : Int) := (by simpa using h5); omega
    clear h5
    obtain ⟨x, hx'⟩ : ∃ y, l[k]? = some y := ⟨_, List.getElem?_eq_getElem hk1⟩
    have hx := Lib.hid hx'
    clear hx'
    refine wp_skip ?_
    refine then_normal ?_
    refine wp_seq ?_
    refine wp_block ?_
    refine wp_seq ?_
    refine wp_region_N [(0, 1), (1, 1), (2, 1)] (by kernel_rfl) ?_
    refine wpS_index (E := elemI) (i := 0) (d := some 13) rfl (by rfl) rfl rfl rfl (HM4.out.row 0 rfl hR) (hx.out) rfl ?_
    intro eb6 eo7 hc8
    simp only [Act.put, List.setIfInBounds_toArray, List.set_cons_succ, List.set_cons_zero]
    refine wpS_load1 (i := 1) (d := some 14) (u := .int .i64 x) rfl (by rfl) rfl rfl (hc8 0 _ rfl) Try.underlying3 rfl rfl ?_
    simp only [Act.put, List.setIfInBounds_toArray, List.set_cons_succ, List.set_cons_zero]
    refine wpS_this [2] rfl (by kernel_rfl) (by simp only [pickL, nthL, List.cons_append, List.nil_append]; rfl) ?_
    repeat (go_big_quiet_step (fail))
    refine wpQuiet_nil ?_
    refine wpS_nil ?_
    refine then_normal ?_
    refine wp_seq ?_
    refine wp_region_N [(0, 1), (1, 3)] (by kernel_rfl) ?_
    refine wpS_this [0] rfl (by kernel_rfl) (by simp only [pickL, nthL, List.cons_append, List.nil_append]; rfl) ?_
    repeat (go_big_quiet_step (fail))
    refine wpQuiet_nil ?_
    refine wpS_does1 (i := 1) (d := some 16) (rem := [_, _]) (out := [_, _]) rfl (by rfl) rfl Try.call25 (isNode_d x) rfl HM4.out [] rfl covS_nil rfl rfl ?_
    rintro W10 hm9 -
    have HM11 := Lib.hid hm9
    clear hm9
    simp only [Act.put, List.setIfInBounds_toArray, List.set_cons_succ, List.set_cons_zero]
    refine wpS_nil ?_
    refine then_normal ?_
    refine wp_cond_split rfl (fun h12 => ?_) (fun h12 => ?_)
    · have h5 : 0 ≤ x ∧ x < 8 := by simpa [nodeI] using h12
      clear h12
      obtain ⟨h50, h58⟩ := h5
      obtain ⟨j, rfl⟩ : ∃ j : Nat, x = (j : Int) := ⟨x.toNat, by omega⟩
      refine wp_region_N [(0, 1), (1, 1), (2, 3)] (by kernel_rfl) ?_
      refine wpS_this [0] rfl (by kernel_rfl) (by simp only [pickL, nthL, List.cons_append, List.nil_append]; rfl) ?_
      repeat (go_big_quiet_step (fail))
      refine wpQuiet_nil ?_
      refine wpS_addrArrB (i := 1) (d := some 18) (b := tb) (j := j) is8b rfl (by rfl) rfl rfl rfl (by omega) rfl ?_
      simp only [Act.put, List.setIfInBounds_toArray, List.set_cons_succ, List.set_cons_zero]
      refine wpS_setElB (i := 2) (z := true) (L2 := [_]) rfl (by rfl) rfl rfl rfl HM11.out 1 rfl rfl (by rw [tB_len]; omega) covS_nil rfl ?_
      rintro W14 hm13 -
      have HM15 := Lib.hid hm13
      clear hm13
      refine wpS_nil ?_
      refine block_normal ?_
      refine then_normal ?_
      refine wp_region_N [(0, 1), (1, 1)] (by kernel_rfl) ?_
      refine wpS_this [0, 1] rfl (by kernel_rfl) (by simp only [pickL, nthL, List.cons_append, List.nil_append]; rfl) ?_
      repeat (go_big_quiet_step (fail))
      refine wpQuiet_nil ?_
      refine wpS_nil ?_
      refine then_normal ?_
      refine ⟨by kernel_rfl, ?_⟩
      refine ⟨l.length - (k + 1), by omega, k + 1, rfl, rfl, hk1, ?_⟩
      rw [tB_hit hx.out (by omega)]
      exact (Mem.only (M := [_, _]) HM15.out [1, 0] rfl)
    · have h5 : Hid (¬ (0 ≤ x ∧ x < 8)) := Lib.hid (by simpa [nodeI] using h12)
      clear h12
      refine wp_skip ?_
      refine block_normal ?_
      refine then_normal ?_
      refine wp_region_N [(0, 1), (1, 1)] (by kernel_rfl) ?_
      refine wpS_this [0, 1] rfl (by kernel_rfl) (by simp only [pickL, nthL, List.cons_append, List.nil_append]; rfl) ?_
      repeat (go_big_quiet_step (fail))
      refine wpQuiet_nil ?_
      refine wpS_nil ?_
      refine then_normal ?_
      refine ⟨by kernel_rfl, ?_⟩
      refine ⟨l.length - (k + 1), by omega, k + 1, rfl, rfl, hk1, ?_⟩
      rw [tB_miss hx.out h5.out]
      exact (Mem.only (M := [_, _]) HM11.out [0, 0] rfl)
  · have hge : Hid (l.length ≤ k) := Lib.hid (by have : ¬ (k : Int) < (l.length : Int) := (by simpa using h5); omega)
    clear h5
    refine wp_exit ?_
    refine then_exit (then_exit (block_exit ?_))
    refine then_normal ?_
    refine wp_seq ?_
    refine wp_region_N [(0, 1)] (by kernel_rfl) ?_
    refine wpS_this [0] rfl (by kernel_rfl) (by simp only [pickL, nthL, List.cons_append, List.nil_append]; rfl) ?_
    repeat (go_big_quiet_step (fail))
    refine wpQuiet_nil ?_
    refine wpS_nil ?_
    refine then_normal ?_
    refine wp_seq ?_
    refine wp_seq ?_
    refine wp_region_N [(0, 1), (1, 1)] (by kernel_rfl) ?_
    have hkl : k = l.length := by have := hge.out; omega
    subst hkl
    refine wpS_loadArrB (i := 0) (d := some 20) is8b rfl (by rfl) rfl rfl HM4.out 1 rfl (tB_len _ _) rfl ?_
    simp only [Act.put, List.setIfInBounds_toArray, List.set_cons_succ, List.set_cons_zero]
    refine wpS_this [1] rfl (by kernel_rfl) (by simp only [pickL, nthL, List.cons_append, List.nil_append]; rfl) ?_
    repeat (go_big_quiet_step (fail))
    refine wpQuiet_nil ?_
    refine wpS_nil ?_
    refine then_normal ?_
    refine wp_block ?_
    refine wp_loop_F [6, 7, 8, 21, 22, 23, 24, 25, 26, 27, 28, 29, 30] (fun n ws W' => ∃ (k : Nat) (u : Value), n = 8 - k ∧ ws 21 = .int .i64 (k : Int) ∧ ws 6 = u ∧ k ≤ 8 ∧ Mem [rowT elemI u (peersF (isPeer l (-1)) k), R, arrB tb 45 (tB l l.length)] H w W') (n0 := 8) ?_ ?_
    · exact ⟨0, _, rfl, rfl, rfl, Nat.zero_le _, Mem.nilRow elemI (Mem.only (M := [_, _]) HM4.out [0, 0] rfl)⟩
    rintro n ws W' ⟨k, u, rfl, e21, e6, hk, hmm⟩
    simp only [putAll, List.map_cons, List.map_nil, Act.put, List.setIfInBounds_toArray, List.set_cons_succ, List.set_cons_zero]
    rw [e21, e6]
    clear e21 e6
    have hfl := peersF_len (isPeer l (-1)) k
    have HM16 := Lib.hid hmm
    clear hmm
    refine wp_seq ?_
    refine wp_region_N [(0, 1)] (by kernel_rfl) ?_
    refine wpS_this [0] rfl (by kernel_rfl) (by simp only [pickL, nthL, List.cons_append, List.nil_append]; rfl) ?_
    repeat (go_big_quiet_step (fail))
    refine wpQuiet_nil ?_
    refine wpS_nil ?_
    refine then_normal ?_
    refine wp_seq ?_
    refine wp_cond_split rfl (fun h17 => ?_) (fun h17 => ?_)
    · have hk1 : k + 1 ≤ 8 := by have : (k : Int) < ((8 : Nat) : Int) := (by simpa using h17); omega
      clear h17
      refine wp_skip ?_
      refine then_normal ?_
      refine wp_seq ?_
      refine wp_block ?_
      refine wp_seq ?_
      refine wp_region_N [(0, 1), (1, 1), (2, 1), (3, 1)] (by kernel_rfl) ?_
      refine wpS_this [0] rfl (by kernel_rfl) (by simp only [pickL, nthL, List.cons_append, List.nil_append]; rfl) ?_
      repeat (go_big_quiet_step (fail))
      refine wpQuiet_nil ?_
      refine wpS_indexArrB (i := 1) (d := some 24) (j := k) is8b rfl (by rfl) rfl rfl rfl (tB_end l (by omega)) (tB_len _ _) rfl ?_
      simp only [Act.put, List.setIfInBounds_toArray, List.set_cons_succ, List.set_cons_zero]
      refine wpS_this [2, 3] rfl (by kernel_rfl) (by simp only [pickL, nthL, List.cons_append, List.nil_append]; rfl) ?_
      repeat (go_big_quiet_step (fail))
      refine wpQuiet_nil ?_
      refine wpS_nil ?_
      refine then_normal ?_
      refine wp_seq ?_
      refine wp_region_N [(0, 1)] (by kernel_rfl) ?_
      refine wpS_this [0] rfl (by kernel_rfl) (by simp only [pickL, nthL, List.cons_append, List.nil_append]; rfl) ?_
      repeat (go_big_quiet_step (fail))
      refine wpQuiet_nil ?_
      refine wpS_nil ?_
      refine then_normal ?_
      refine wp_cond_split rfl (fun h18 => ?_) (fun h18 => ?_)
      · have h12 := Lib.hid h18
        clear h18
        refine wp_region_N [(0, 1), (1, 1), (2, 3), (3, 3), (4, 1)] (by kernel_rfl) ?_
        refine wpS_this [0, 1] rfl (by kernel_rfl) (by simp only [pickL, nthL, List.cons_append, List.nil_append]; rfl) ?_
        repeat (go_big_quiet_step (fail))
        refine wpQuiet_nil ?_
        refine wpS_build1 elemI (i := 2) (dd := 28) (y := ((k : Nat) : Int)) rfl (by rfl) rfl rfl rfl (by decide) HM16.out covS_nil rfl ?_
        rintro b21 W22 hm23 -
        have HM24 := Lib.hid hm23
        clear hm23
        simp only [Act.put, List.setIfInBounds_toArray, List.set_cons_succ, List.set_cons_zero]
        refine wpS_append (E := elemI) (i := 3) (d := some 29) (L2 := [_, _, _]) rfl (by rfl) rfl HM24.out 1 rfl rfl ((HM24.out.src 0 rfl rowT_reads)) rfl (by simp only [List.length_cons, List.length_nil]; show _ * 8 ≤ _; omega) rfl covS_nil rfl ?_
        rintro u27 W28 hm29 -
        have HM30 := Lib.hid hm29
        clear hm29
        simp only [Act.put, List.setIfInBounds_toArray, List.set_cons_succ, List.set_cons_zero]
        refine wpS_this [4] rfl (by kernel_rfl) (by simp only [pickL, nthL, List.cons_append, List.nil_append]; rfl) ?_
        repeat (go_big_quiet_step (fail))
        refine wpQuiet_nil ?_
        refine wpS_nil ?_
        refine block_normal ?_
        refine then_normal ?_
        refine wp_region_N [(0, 1), (1, 1)] (by kernel_rfl) ?_
        refine wpS_this [0, 1] rfl (by kernel_rfl) (by simp only [pickL, nthL, List.cons_append, List.nil_append]; rfl) ?_
        repeat (go_big_quiet_step (fail))
        refine wpQuiet_nil ?_
        refine wpS_nil ?_
        refine then_normal ?_
        refine ⟨by kernel_rfl, ?_⟩
        refine ⟨8 - (k + 1), by omega, k + 1, _, rfl, rfl, rfl, hk1, ?_⟩
        rw [peersF_hit _ _ h12.out]
        exact (Mem.only (M := [_, _, _]) HM30.out [0, 1, 1] rfl)
      · have h12 : Hid (isPeer l (-1) k = false) := Lib.hid (by simpa using h18)
        clear h18
        refine wp_skip ?_
        refine block_normal ?_
        refine then_normal ?_
        refine wp_region_N [(0, 1), (1, 1)] (by kernel_rfl) ?_
        refine wpS_this [0, 1] rfl (by kernel_rfl) (by simp only [pickL, nthL, List.cons_append, List.nil_append]; rfl) ?_
        repeat (go_big_quiet_step (fail))
        refine wpQuiet_nil ?_
        refine wpS_nil ?_
        refine then_normal ?_
        refine ⟨by kernel_rfl, ?_⟩
        refine ⟨8 - (k + 1), by omega, k + 1, _, rfl, rfl, rfl, hk1, ?_⟩
        rw [peersF_miss _ _ h12.out]
        exact (Mem.only (M := [_, _, _]) HM16.out [0, 0, 0] rfl)
    · have hkn : k = 8 := by have : ¬ (k : Int) < 8 := (by simpa using h17); omega
      clear h17
      subst hkn
      refine wp_exit ?_
      refine then_exit (then_exit (block_exit ?_))
      refine then_normal ?_
      refine wp_seq ?_
      refine wp_region_N [(0, 1), (1, 1)] (by kernel_rfl) ?_
      refine wpS_this [0, 1] rfl (by kernel_rfl) (by simp only [pickL, nthL, List.cons_append, List.nil_append]; rfl) ?_
      repeat (go_big_quiet_step (fail))
      refine wpQuiet_nil ?_
      refine wpS_nil ?_
      refine then_normal ?_
      refine wp_ret ?_
      refine bodyPost_ret (results_tmp rfl _ _ _) rfl ?_
      exact doesU_ret (post := fun u => [rowT elemI u (peersOf l (-1)), R]) (Mem.only (M := [_, _]) HM16.out [0, 0] rfl) rfl
end
end Go.Proofs.Ythibiejneggmoaa
