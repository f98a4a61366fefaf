/- Space: SpaceRound. -/
import Derived.Test.YthibiejneggmoaaSpA
namespace Go.Proofs.Ythibiejneggmoaa
open Go Go.RowKit Go.BigFrame

def mod16 (x : Int) : Nat := ((IntKind.u64.wrap x).tmod 16).toNat
theorem mod16_range (x : Int) : 0 ≤ (IntKind.u64.wrap x).tmod 16 ∧ (IntKind.u64.wrap x).tmod 16 < 16 := by
  have h : 0 ≤ IntKind.u64.wrap x := by
    unfold IntKind.wrap
    simp [IntKind.signed, IntKind.bits]
    omega
  rw [Int.tmod_eq_emod_of_nonneg h]
  omega
theorem mod16_lt (x : Int) : mod16 x < 16 := by
  have := mod16_range x
  unfold mod16
  omega
theorem mod16_eq {x : Int} {w : Nat} (h : mod16 x = w) : wrap64 ((IntKind.u64.wrap x).tmod 16) = (w : Int) := by
  have h1 := mod16_range x
  unfold mod16 at h
  have h2 : (IntKind.u64.wrap x).tmod 16 = (w : Int) := by omega
  rw [h2]
  unfold wrap64
  omega
def fW (T : List Int) (a : Nat) : Nat → Bool := fun q => whoL T q == whoL T a
theorem fW_self (T : List Int) (a : Nat) : fW T a a = true := beq_self_eq_true _
theorem whoL_some {T : List Int} {p x : Nat} (h : whoL T p = (x : Int)) : T[p]? = some (x : Int) ∧ x < 8 := by
  have h0 : nodeE (atL T p) = true := whoL_pos (by rw [h]; omega)
  have h1 : atL T p = (x : Int) := (whoL_node h0).symm.trans h
  have h2 := whoL_range T p
  have hlt : p < T.length := by
    rcases Nat.lt_or_ge p T.length with q | q
    · exact q
    · rw [whoL_out q] at h; omega
  refine ⟨?_, by omega⟩
  rw [← h1]
  exact atL_some hlt
theorem round_next {T : List Int} {a s seen least : Nat} {x : Nat} (hx : whoL T a = (x : Int)) (hr : RoundS (fW T a) a s seen least) : whoL T ((a + s) % 16) = (x : Int) ∧ nextI T (((a + s) % 16 : Nat) : Int) = (nextN (fW T a) ((a + s) % 16) : Int) := by
  have h1 : whoL T ((a + s) % 16) = whoL T a := beq_iff_eq.1 hr.at_
  refine ⟨h1.trans hx, ?_⟩
  rw [nextI_at (by omega) (by rw [h1, hx]; omega)]
  unfold nextO fW
  rw [h1]
theorem seen_le {f : Nat → Bool} {a s seen least : Nat} (h : RoundS f a s seen least) : seen ≤ 16 := by
  rw [h.seen]
  have := List.countP_le_length (p := fun j => f ((a + 1 + j) % 16)) (l := List.range s)
  rw [List.length_range] at this
  have := h.le
  omega
set_option maxHeartbeats 4000000 in
set_option maxRecDepth 100000 in
theorem round_d (W0 : World) (vT : Value) (T : List Int) (hT : RowAt elemI W0 vT T) (part : Int) : Does Try.prog 3 #[vT, .int .i64 part] [oldT W0] (.bool true) [oldT W0] := by
  intro w H hp
  have HM0 := Lib.hid (mem_refl hp)
  clear hp
  obtain ⟨pT, cT, rfl⟩ := rd_form hT
  go_enter Try.func3, Try.ntmps3
  refine wp_seq ?_
  refine wp_region_N [(0, 1)] (by kernel_rfl) ?_
  refine wpS_this [0] rfl (by kernel_rfl) (by simp only [pickL, nthL, List.cons_append, List.nil_append]; rfl) ?_
  repeat (go_big_quiet_step (fail))
  refine wpQuiet_nil ?_
  refine wpS_nil ?_
  refine then_normal ?_
  refine wp_seq ?_
  refine wp_seq ?_
  by_cases h1 : 100 < T.length
  · have g1 : decide ((100 : Int) < (T.length : Int)) = true := decide_eq_true (by omega)
    have g1' := decide_eq_true h1
    replace h1 := Lib.hid h1
    refine wp_region_N [(0, 1), (1, 1), (2, 1)] (by kernel_rfl) ?_
    refine wpS_this [0, 1, 2] rfl (by kernel_rfl) (by simp only [pickL, nthL, List.cons_append, List.nil_append]; rfl) ?_
    repeat (go_big_quiet_step (fail))
    refine wpQuiet_nil ?_
    refine wpS_nil ?_
    refine then_normal ?_
    refine wp_cond_true rfl ?_
    refine wp_seq ?_
    refine wp_region_N [(0, 3), (1, 1)] (by kernel_rfl) ?_
    refine wpS_does0 (i := 0) (d := some 15) (rem := [_]) (out := [_]) rfl (by rfl) rfl Try.call7 (sawake_d)  HM0.out [] rfl covS_nil rfl rfl ?_
    rintro W2 hm1 -
    have HM3 := Lib.hid hm1
    clear hm1
    simp only [Act.put, List.setIfInBounds_toArray, List.set_cons_succ, List.set_cons_zero]
    refine wpS_this [1] rfl (by kernel_rfl) (by simp only [pickL, nthL, List.cons_append, List.nil_append]; rfl) ?_
    repeat (go_big_quiet_step (fail))
    refine wpQuiet_nil ?_
    refine wpS_nil ?_
    refine then_normal ?_
    refine wp_ret ?_
    refine then_ret ?_
    refine bodyPost_ret (results_tmp rfl _ _ _) rfl ?_
    exact does_ret (Mem.only (M := [_]) HM3.out [0] rfl) rfl rfl
  · have g1 : decide ((100 : Int) < (T.length : Int)) = false := decide_eq_false (by omega)
    have g1' := decide_eq_false h1
    refine wp_region_N [(0, 1), (1, 1), (2, 1)] (by kernel_rfl) ?_
    refine wpS_this [0, 1, 2] rfl (by kernel_rfl) (by simp only [pickL, nthL, List.cons_append, List.nil_append]; rfl) ?_
    repeat (go_big_quiet_step (fail))
    refine wpQuiet_nil ?_
    refine wpS_nil ?_
    refine then_normal ?_
    refine wp_cond_false rfl ?_
    refine wp_skip ?_
    refine then_normal ?_
    refine wp_seq ?_
    obtain ⟨a, ha'⟩ : ∃ z, mod16 part = z := ⟨_, rfl⟩
    have ha16 : a < 16 := by rw [← ha']; exact mod16_lt _
    have hae := Lib.hid (mod16_eq ha')
    clear ha'
    refine wp_region_N [(0, 1), (1, 1), (2, 1), (3, 1), (4, 1)] (by kernel_rfl) ?_
    refine wpS_this [0, 1, 2] rfl (by kernel_rfl) (by simp only [pickL, nthL, List.cons_append, List.nil_append]; rfl) ?_
    repeat (go_big_quiet_step (fail))
    refine wpQuiet_nil ?_
    refine wpS_this [3] rfl (by kernel_rfl) (by simp only [pickL, nthL, List.cons_append, List.nil_append]; rfl) ?_
    repeat (go_big_quiet_step (fail))
    refine wpQuiet_nil ?_
    rw [hae.out]
    refine wpS_this [4] rfl (by kernel_rfl) (by simp only [pickL, nthL, List.cons_append, List.nil_append]; rfl) ?_
    repeat (go_big_quiet_step (fail))
    refine wpQuiet_nil ?_
    refine wpS_nil ?_
    refine then_normal ?_
    refine wp_seq ?_
    obtain ⟨n0, hn0'⟩ := int_letter (nextI T (a : Int))
    have hn0 := Lib.hid hn0'
    clear hn0'
    refine wp_region_N [(0, 1), (1, 1), (2, 3), (3, 1)] (by kernel_rfl) ?_
    refine wpS_this [0, 1] rfl (by kernel_rfl) (by simp only [pickL, nthL, List.cons_append, List.nil_append]; rfl) ?_
    repeat (go_big_quiet_step (fail))
    refine wpQuiet_nil ?_
    refine wpS_does2 (i := 2) (d := some 22) (rem := []) (out := [_]) rfl (by rfl) rfl Try.call8 (spnext_d (oldT W0) _ T (rowOld hT) (by omega) (a : Int)) rfl rfl HM0.out [0] rfl covS_nil rfl rfl ?_
    rintro W5 hm4 -
    rw [hn0.out]
    have HM6 := Lib.hid hm4
    clear hm4
    simp only [Act.put, List.setIfInBounds_toArray, List.set_cons_succ, List.set_cons_zero]
    refine wpS_this [3] rfl (by kernel_rfl) (by simp only [pickL, nthL, List.cons_append, List.nil_append]; rfl) ?_
    repeat (go_big_quiet_step (fail))
    refine wpQuiet_nil ?_
    refine wpS_nil ?_
    refine then_normal ?_
    refine wp_seq ?_
    refine wp_seq ?_
    rcases part_ways T a with h1 | ⟨h1, y, hy, h2⟩ | ⟨h1, x, hy, h2⟩
    · have g5 : decide ((T.length : Int) ≤ (a : Int)) = true := decide_eq_true (by omega)
      have hz : n0 = 0 := hn0.out.symm.trans (nextI_no (by rw [whoL_out h1]; decide))
      subst hz
      refine wp_region_N [(0, 1), (1, 1), (2, 1), (3, 1), (4, 1), (5, 1), (6, 1), (7, 1), (8, 1), (9, 3), (10, 1), (11, 1)] (by kernel_rfl) ?_
      refine wpS_this [0, 1, 2, 3, 4, 5, 6] rfl (by kernel_rfl) (by simp only [pickL, nthL, List.cons_append, List.nil_append]; rfl) ?_
      repeat (go_big_quiet_step (fail))
      refine wpQuiet_nil ?_
      refine wpS_skip (i := 7) (d := some 30) rfl (by rfl) rfl ?_
      simp only [Act.put, List.setIfInBounds_toArray, List.set_cons_succ, List.set_cons_zero]
      refine wpS_skip (i := 8) (d := some 31) rfl (by rfl) rfl ?_
      simp only [Act.put, List.setIfInBounds_toArray, List.set_cons_succ, List.set_cons_zero]
      refine wpS_skip (i := 9) (d := some 32) rfl (by rfl) rfl ?_
      simp only [Act.put, List.setIfInBounds_toArray, List.set_cons_succ, List.set_cons_zero]
      refine wpS_this [10, 11] rfl (by kernel_rfl) (by simp only [pickL, nthL, List.cons_append, List.nil_append]; rfl) ?_
      repeat (go_big_quiet_step (fail))
      refine wpQuiet_nil ?_
      refine wpS_nil ?_
      refine then_normal ?_
      refine wp_cond_true rfl ?_
      refine wp_seq ?_
      refine wp_region_N [(0, 1), (1, 1), (2, 1), (3, 3), (4, 1), (5, 1)] (by kernel_rfl) ?_
      refine wpS_this [0, 1, 2] rfl (by kernel_rfl) (by simp only [pickL, nthL, List.cons_append, List.nil_append]; rfl) ?_
      repeat (go_big_quiet_step (fail))
      refine wpQuiet_nil ?_
      refine wpS_does0 (i := 3) (d := some 38) (rem := [_]) (out := [_]) rfl (by rfl) rfl Try.call7 (sawake_d)  HM6.out [] rfl covS_nil rfl rfl ?_
      rintro W8 hm7 -
      have HM9 := Lib.hid hm7
      clear hm7
      simp only [Act.put, List.setIfInBounds_toArray, List.set_cons_succ, List.set_cons_zero]
      refine wpS_this [4, 5] rfl (by kernel_rfl) (by simp only [pickL, nthL, List.cons_append, List.nil_append]; rfl) ?_
      repeat (go_big_quiet_step (fail))
      refine wpQuiet_nil ?_
      refine wpS_nil ?_
      refine then_normal ?_
      refine wp_ret ?_
      refine then_ret ?_
      refine bodyPost_ret (results_tmp rfl _ _ _) rfl ?_
      exact does_ret (Mem.only (M := [_]) HM9.out [0] rfl) rfl rfl
    · have g5 : decide ((T.length : Int) ≤ (a : Int)) = false := decide_eq_false (by omega)
      have g5' : decide (T.length ≤ a) = false := decide_eq_false (by omega)
      have hz : n0 = 0 := hn0.out.symm.trans (nextI_no (by rw [whoL_none (by rw [atL_of hy]; exact h2)]; decide))
      subst hz
      have hy := Lib.hid hy
      replace h2 := Lib.hid h2
      refine wp_region_N [(0, 1), (1, 1), (2, 1), (3, 1), (4, 1), (5, 1), (6, 1), (7, 1), (8, 1), (9, 3), (10, 1), (11, 1)] (by kernel_rfl) ?_
      refine wpS_this [0, 1, 2, 3, 4, 5, 6] rfl (by kernel_rfl) (by simp only [pickL, nthL, List.cons_append, List.nil_append]; rfl) ?_
      repeat (go_big_quiet_step (fail))
      refine wpQuiet_nil ?_
      refine wpS_index (E := elemI) (i := 7) (d := some 30) rfl (by rfl) rfl rfl rfl (HM6.out.row 0 rfl (rowOld hT)) (hy.out) rfl ?_
      intro eb10 eo11 hc12
      simp only [Act.put, List.setIfInBounds_toArray, List.set_cons_succ, List.set_cons_zero]
      refine wpS_load1 (i := 8) (d := some 31) (u := .int .i64 y) rfl (by rfl) rfl rfl (hc12 0 _ rfl) Try.underlying3 rfl rfl ?_
      simp only [Act.put, List.setIfInBounds_toArray, List.set_cons_succ, List.set_cons_zero]
      refine wpS_does1 (i := 9) (d := some 32) (rem := [_]) (out := [_]) rfl (by rfl) rfl Try.call9 (rnode_d _) rfl HM6.out [] rfl covS_nil rfl rfl ?_
      rintro W14 hm13 -
      rw [h2.out]
      have HM15 := Lib.hid hm13
      clear hm13
      simp only [Act.put, List.setIfInBounds_toArray, List.set_cons_succ, List.set_cons_zero]
      refine wpS_this [10, 11] rfl (by kernel_rfl) (by simp only [pickL, nthL, List.cons_append, List.nil_append]; rfl) ?_
      repeat (go_big_quiet_step (fail))
      refine wpQuiet_nil ?_
      refine wpS_nil ?_
      refine then_normal ?_
      refine wp_cond_true rfl ?_
      refine wp_seq ?_
      refine wp_region_N [(0, 1), (1, 1), (2, 1), (3, 3), (4, 1), (5, 1)] (by kernel_rfl) ?_
      refine wpS_this [0, 1, 2] rfl (by kernel_rfl) (by simp only [pickL, nthL, List.cons_append, List.nil_append]; rfl) ?_
      repeat (go_big_quiet_step (fail))
      refine wpQuiet_nil ?_
      refine wpS_does0 (i := 3) (d := some 38) (rem := [_]) (out := [_]) rfl (by rfl) rfl Try.call7 (sawake_d)  HM15.out [] rfl covS_nil rfl rfl ?_
      rintro W17 hm16 -
      have HM18 := Lib.hid hm16
      clear hm16
      simp only [Act.put, List.setIfInBounds_toArray, List.set_cons_succ, List.set_cons_zero]
      refine wpS_this [4, 5] rfl (by kernel_rfl) (by simp only [pickL, nthL, List.cons_append, List.nil_append]; rfl) ?_
      repeat (go_big_quiet_step (fail))
      refine wpQuiet_nil ?_
      refine wpS_nil ?_
      refine then_normal ?_
      refine wp_ret ?_
      refine then_ret ?_
      refine bodyPost_ret (results_tmp rfl _ _ _) rfl ?_
      exact does_ret (Mem.only (M := [_]) HM18.out [0] rfl) rfl rfl
    · have g5 : decide ((T.length : Int) ≤ (a : Int)) = false := decide_eq_false (by omega)
      have g5' : decide (T.length ≤ a) = false := decide_eq_false (by omega)
      obtain ⟨xn, hxn, hx8⟩ := whoL_nat' h2
      subst hxn
      have hx : Hid (whoL T a = (xn : Int)) := Lib.hid (by rw [whoL_node (by rw [atL_of hy]; exact h2), atL_of hy])
      have hy := Lib.hid hy
      replace h2 := Lib.hid h2
      refine wp_region_N [(0, 1), (1, 1), (2, 1), (3, 1), (4, 1), (5, 1), (6, 1), (7, 1), (8, 1), (9, 3), (10, 1), (11, 1)] (by kernel_rfl) ?_
      refine wpS_this [0, 1, 2, 3, 4, 5, 6] rfl (by kernel_rfl) (by simp only [pickL, nthL, List.cons_append, List.nil_append]; rfl) ?_
      repeat (go_big_quiet_step (fail))
      refine wpQuiet_nil ?_
      refine wpS_index (E := elemI) (i := 7) (d := some 30) rfl (by rfl) rfl rfl rfl (HM6.out.row 0 rfl (rowOld hT)) (hy.out) rfl ?_
      intro eb19 eo20 hc21
      simp only [Act.put, List.setIfInBounds_toArray, List.set_cons_succ, List.set_cons_zero]
      refine wpS_load1 (i := 8) (d := some 31) (u := .int .i64 (xn : Int)) rfl (by rfl) rfl rfl (hc21 0 _ rfl) Try.underlying3 rfl rfl ?_
      simp only [Act.put, List.setIfInBounds_toArray, List.set_cons_succ, List.set_cons_zero]
      refine wpS_does1 (i := 9) (d := some 32) (rem := [_]) (out := [_]) rfl (by rfl) rfl Try.call9 (rnode_d _) rfl HM6.out [] rfl covS_nil rfl rfl ?_
      rintro W23 hm22 -
      rw [h2.out]
      have HM24 := Lib.hid hm22
      clear hm22
      simp only [Act.put, List.setIfInBounds_toArray, List.set_cons_succ, List.set_cons_zero]
      refine wpS_this [10, 11] rfl (by kernel_rfl) (by simp only [pickL, nthL, List.cons_append, List.nil_append]; rfl) ?_
      repeat (go_big_quiet_step (fail))
      refine wpQuiet_nil ?_
      refine wpS_nil ?_
      refine then_normal ?_
      refine wp_cond_false rfl ?_
      refine wp_skip ?_
      refine then_normal ?_
      refine wp_seq ?_
      refine wp_region_N [(0, 1), (1, 1), (2, 1), (3, 1)] (by kernel_rfl) ?_
      refine wpS_this [0, 1, 2, 3] rfl (by kernel_rfl) (by simp only [pickL, nthL, List.cons_append, List.nil_append]; rfl) ?_
      repeat (go_big_quiet_step (fail))
      refine wpQuiet_nil ?_
      refine wpS_nil ?_
      refine then_normal ?_
      refine wp_seq ?_
      refine wp_region_N [(0, 1)] (by kernel_rfl) ?_
      refine wpS_this [0] rfl (by kernel_rfl) (by simp only [pickL, nthL, List.cons_append, List.nil_append]; rfl) ?_
      repeat (go_big_quiet_step (fail))
      refine wpQuiet_nil ?_
      refine wpS_nil ?_
      refine then_normal ?_
      refine wp_seq ?_
      refine wp_seq ?_
      refine wp_region_N [(0, 1)] (by kernel_rfl) ?_
      refine wpS_this [0] rfl (by kernel_rfl) (by simp only [pickL, nthL, List.cons_append, List.nil_append]; rfl) ?_
      repeat (go_big_quiet_step (fail))
      refine wpQuiet_nil ?_
      refine wpS_nil ?_
      refine then_normal ?_
      refine wp_block ?_
      refine wp_loop_F [4, 6, 7, 8, 9, 10, 41, 42, 43, 44, 45, 46, 47, 48, 49, 50, 51, 52, 53, 54, 55, 56, 57, 58, 59, 60, 61, 62, 63, 64, 65, 66, 67, 68, 69, 70, 71, 72, 73, 74, 75, 76, 77, 78, 79, 80, 81, 82] (fun n vs W' => ∃ k s seen least p : Nat, n = 16 - k ∧ vs 41 = .int .i64 (k : Int) ∧ vs 6 = .int .i64 (p : Int) ∧ vs 7 = .int .i64 (s : Int) ∧ vs 8 = .int .i64 (seen : Int) ∧ vs 9 = .int .i64 (least : Int) ∧ p = (a + s) % 16 ∧ k ≤ s ∧ s < 16 ∧ RoundS (fW T a) a s seen least ∧ Mem [oldT W0] H w W') (n0 := 16) ?_ ?_
      · exact ⟨0, 0, 0, 16, a, rfl, rfl, rfl, rfl, rfl, rfl, by rw [Nat.add_zero, Nat.mod_eq_of_lt ha16], Nat.le_refl _, by decide, round_zero ha16 (fW_self T a), (Mem.only (M := [_]) HM24.out [0] rfl)⟩
      rintro n vs W' ⟨k, s, seen, least, p, rfl, e41, e6, e7, e8, e9, hp', hks, hs16, hr, hm⟩
      simp only [putAll, List.map_cons, List.map_nil, Act.put, List.setIfInBounds_toArray, List.set_cons_succ, List.set_cons_zero]
      rw [e41, e6, e7, e8, e9]
      clear e41 e6 e7 e8 e9
      have gk : decide ((k : Int) < 16) = true := decide_eq_true (by omega)
      have hrn := round_next hx.out hr
      have hrs := round_step ha16 (fW_self T a) hr hs16
      have hsb := seen_le hr
      have hlb := hr.low.1
      rw [← hp'] at hrn hrs
      obtain ⟨m, hm'⟩ := nat_letter (nextN (fW T a) p)
      have hmr : 1 ≤ m ∧ m ≤ 16 := by rw [← hm']; exact ⟨(nextN_spec _ _).1, (nextN_spec _ _).2.1⟩
      rw [hm'] at hrn hrs
      obtain ⟨hxp, hnx'⟩ := hrn
      obtain ⟨hsm, hr2'⟩ := hrs
      obtain ⟨hm1, hm16⟩ := hmr
      obtain ⟨s2, hs2'⟩ := nat_letter (s + m)
      have hs2i : Hid ((s : Int) + (m : Int) = (s2 : Int)) := Lib.hid (by omega)
      obtain ⟨l2, hl2'⟩ := nat_letter (min least m)
      obtain ⟨p2, hp2'⟩ := nat_letter ((a + s2) % 16)
      rw [hs2', hl2'] at hr2'
      have hpm : Hid (((p : Int) + (m : Int)) % 16 = (p2 : Int)) := Lib.hid (by omega)
      have hp2b : p2 < 16 := by omega
      have hpb : p < 16 := by omega
      have hs2b : s2 ≤ 16 ∧ 1 ≤ s2 := by omega
      have hks2 : k + 1 ≤ s2 := by omega
      have hmn : Hid ((if m < least then (m : Int) else (least : Int)) = (l2 : Int)) := Lib.hid (by split <;> omega)
      have hxq : whoL T p2 = (xn : Int) := by rw [← hp2']; exact (beq_iff_eq.1 hr2'.at_).trans hx.out
      have hp2T := (whoL_some hxq).1
      have hp2l : p2 < T.length := (List.getElem?_eq_some_iff.1 hp2T).1
      have hp2T := Lib.hid hp2T
      have g12 : decide ((m : Int) < 1) = false := decide_eq_false (by omega)
      have g12' : decide ((16 : Int) < (m : Int)) = false := decide_eq_false (by omega)
      have g18 : decide ((T.length : Int) ≤ (p2 : Int)) = false := decide_eq_false (by omega)
      have g18n : decide (T.length ≤ p2) = false := decide_eq_false (by omega)
      have g18' : ((xn : Int) != (xn : Int)) = false := bne_self_eq_false _
      clear hm' hl2' hxp hxq hsm
      have hnx := Lib.hid hnx'
      clear hnx'
      have hr2 := Lib.hid hr2'
      clear hr2'
      have hp2 := Lib.hid hp2'
      clear hp2'
      have hs2 := Lib.hid hs2'
      clear hs2'
      have hp := Lib.hid hp'
      clear hp'
      replace hr := Lib.hid hr
      clear hp
      have HM25 := Lib.hid hm
      clear hm
      refine wp_seq ?_
      refine wp_region_N [(0, 1)] (by kernel_rfl) ?_
      refine wpS_this [0] rfl (by kernel_rfl) (by simp only [pickL, nthL, List.cons_append, List.nil_append]; rfl) ?_
      repeat (go_big_quiet_step (fail))
      refine wpQuiet_nil ?_
      refine wpS_nil ?_
      refine then_normal ?_
      refine wp_seq ?_
      refine wp_cond_true rfl ?_
      refine wp_skip ?_
      refine then_normal ?_
      refine wp_seq ?_
      refine wp_block ?_
      refine wp_seq ?_
      refine wp_region_N [(0, 1), (1, 1), (2, 3), (3, 1)] (by kernel_rfl) ?_
      refine wpS_this [0, 1] rfl (by kernel_rfl) (by simp only [pickL, nthL, List.cons_append, List.nil_append]; rfl) ?_
      repeat (go_big_quiet_step (fail))
      refine wpQuiet_nil ?_
      refine wpS_does2 (i := 2) (d := some 45) (rem := []) (out := [_]) rfl (by rfl) rfl Try.call8 (spnext_d (oldT W0) _ T (rowOld hT) (by omega) (p : Int)) rfl rfl HM25.out [0] rfl covS_nil rfl rfl ?_
      rintro W27 hm26 -
      rw [hnx.out]
      have HM28 := Lib.hid hm26
      clear hm26
      simp only [Act.put, List.setIfInBounds_toArray, List.set_cons_succ, List.set_cons_zero]
      refine wpS_this [3] rfl (by kernel_rfl) (by simp only [pickL, nthL, List.cons_append, List.nil_append]; rfl) ?_
      repeat (go_big_quiet_step (fail))
      refine wpQuiet_nil ?_
      refine wpS_nil ?_
      refine then_normal ?_
      refine wp_seq ?_
      refine wp_seq ?_
      refine wp_region_N [(0, 1), (1, 1), (2, 1), (3, 1), (4, 1), (5, 1)] (by kernel_rfl) ?_
      refine wpS_this [0, 1, 2, 3, 4, 5] rfl (by kernel_rfl) (by simp only [pickL, nthL, List.cons_append, List.nil_append]; rfl) ?_
      repeat (go_big_quiet_step (fail))
      refine wpQuiet_nil ?_
      refine wpS_nil ?_
      refine then_normal ?_
      refine wp_cond_false rfl ?_
      refine wp_skip ?_
      refine then_normal ?_
      refine wp_seq ?_
      refine wp_region_N [(0, 1), (1, 1), (2, 1), (3, 1)] (by kernel_rfl) ?_
      refine wpS_this [0, 1] rfl (by kernel_rfl) (by simp only [pickL, nthL, List.cons_append, List.nil_append]; rfl) ?_
      repeat (go_big_quiet_step (fail))
      refine wpQuiet_nil ?_
      refine wpS_this [2] rfl (by kernel_rfl) (by simp only [pickL, nthL, List.cons_append, List.nil_append]; rfl) ?_
      repeat (go_big_quiet_step (fail))
      refine wpQuiet_nil ?_
      rw [hs2i.out]
      refine wpS_this [3] rfl (by kernel_rfl) (by simp only [pickL, nthL, List.cons_append, List.nil_append]; rfl) ?_
      repeat (go_big_quiet_step (fail))
      refine wpQuiet_nil ?_
      refine wpS_nil ?_
      refine then_normal ?_
      refine wp_seq ?_
      refine wp_region_N [(0, 1), (1, 1), (2, 1), (3, 1)] (by kernel_rfl) ?_
      refine wpS_this [0, 1] rfl (by kernel_rfl) (by simp only [pickL, nthL, List.cons_append, List.nil_append]; rfl) ?_
      repeat (go_big_quiet_step (fail))
      refine wpQuiet_nil ?_
      refine wpS_this [2] rfl (by kernel_rfl) (by simp only [pickL, nthL, List.cons_append, List.nil_append]; rfl) ?_
      repeat (go_big_quiet_step (fail))
      refine wpQuiet_nil ?_
      rw [hmn.out]
      refine wpS_this [3] rfl (by kernel_rfl) (by simp only [pickL, nthL, List.cons_append, List.nil_append]; rfl) ?_
      repeat (go_big_quiet_step (fail))
      refine wpQuiet_nil ?_
      refine wpS_nil ?_
      refine then_normal ?_
      refine wp_seq ?_
      refine wp_region_N [(0, 1), (1, 1), (2, 1)] (by kernel_rfl) ?_
      refine wpS_this [0, 1, 2] rfl (by kernel_rfl) (by simp only [pickL, nthL, List.cons_append, List.nil_append]; rfl) ?_
      repeat (go_big_quiet_step (fail))
      refine wpQuiet_nil ?_
      refine wpS_nil ?_
      refine then_normal ?_
      refine wp_seq ?_
      refine wp_region_N [(0, 1), (1, 1), (2, 1), (3, 1), (4, 1)] (by kernel_rfl) ?_
      refine wpS_this [0, 1, 2] rfl (by kernel_rfl) (by simp only [pickL, nthL, List.cons_append, List.nil_append]; rfl) ?_
      repeat (go_big_quiet_step (fail))
      refine wpQuiet_nil ?_
      refine wpS_this [3] rfl (by kernel_rfl) (by simp only [pickL, nthL, List.cons_append, List.nil_append]; rfl) ?_
      repeat (go_big_quiet_step (fail))
      refine wpQuiet_nil ?_
      rw [hpm.out]
      refine wpS_this [4] rfl (by kernel_rfl) (by simp only [pickL, nthL, List.cons_append, List.nil_append]; rfl) ?_
      repeat (go_big_quiet_step (fail))
      refine wpQuiet_nil ?_
      refine wpS_nil ?_
      refine then_normal ?_
      refine wp_seq ?_
      refine wp_seq ?_
      refine wp_region_M (fun k => k ∈ ([] : List Nat)) [(0, 1), (1, 1), (2, 1), (3, 1), (4, 1), (5, 1), (6, 1), (7, 1), (8, 1), (9, 1), (10, 1), (11, 1), (12, 1), (13, 1), (14, 1)] (by kernel_rfl) (by kernel_rfl) HM28.out ?_
      intro W29 hm30
      have HM31 := Lib.hid hm30
      clear hm30
      refine wpS_this [0, 1, 2, 3, 4, 5, 6] rfl (by kernel_rfl) (by simp only [pickL, nthL, List.cons_append, List.nil_append]; rfl) ?_
      repeat (go_big_quiet_step (fail))
      refine wpQuiet_nil ?_
      refine wpS_index (E := elemI) (i := 7) (d := some 71) rfl (by rfl) rfl rfl rfl (HM31.out.row 0 rfl (rowOld hT)) (hp2T.out) rfl ?_
      intro eb32 eo33 hc34
      simp only [Act.put, List.setIfInBounds_toArray, List.set_cons_succ, List.set_cons_zero]
      refine wpS_load1 (i := 8) (d := some 72) (u := .int .i64 (xn : Int)) rfl (by rfl) rfl rfl (hc34 0 _ rfl) Try.underlying3 rfl rfl ?_
      simp only [Act.put, List.setIfInBounds_toArray, List.set_cons_succ, List.set_cons_zero]
      refine wpS_this [9, 10] rfl (by kernel_rfl) (by simp only [pickL, nthL, List.cons_append, List.nil_append]; rfl) ?_
      repeat (go_big_quiet_step (fail))
      refine wpQuiet_nil ?_
      refine wpS_index (E := elemI) (i := 11) (d := some 75) rfl (by rfl) rfl rfl rfl (HM31.out.row 0 rfl (rowOld hT)) (hy.out) rfl ?_
      intro eb35 eo36 hc37
      simp only [Act.put, List.setIfInBounds_toArray, List.set_cons_succ, List.set_cons_zero]
      refine wpS_load1 (i := 12) (d := some 76) (u := .int .i64 (xn : Int)) rfl (by rfl) rfl rfl (hc37 0 _ rfl) Try.underlying3 rfl rfl ?_
      simp only [Act.put, List.setIfInBounds_toArray, List.set_cons_succ, List.set_cons_zero]
      refine wpS_this [13, 14] rfl (by kernel_rfl) (by simp only [pickL, nthL, List.cons_append, List.nil_append]; rfl) ?_
      repeat (go_big_quiet_step (fail))
      refine wpQuiet_nil ?_
      refine wpS_nil ?_
      refine then_normal ?_
      refine wp_cond_false rfl ?_
      refine wp_skip ?_
      refine then_normal ?_
      refine wp_seq ?_
      by_cases hend : s2 = 16
      · have g20 : ((p2 : Int) == (a : Int)) = true := beq_iff_eq.2 (by have := hp2.out; omega)
        have he := round_end (O := whoL T) ha16 (show RoundS (fun q => whoL T q == whoL T a) a 16 (seen + 1) l2 from by rw [← hend]; exact hr2.out)
        rw [hx.out] at he
        obtain ⟨he1', he2'⟩ := he
        have gs16 : ((s2 : Int) == 16) = true := beq_iff_eq.2 (by omega)
        have hcx : Hid ((cntL T)[xn]? = some (((seen + 1 : Nat) : Int))) := Lib.hid (by rw [cntL_at hx8, ← he1'])
        have hle : Hid (leastI T (xn : Int) = (l2 : Int)) := Lib.hid (by unfold leastI; rw [if_pos h2.out, ← he2'])
        have gse : (((seen : Int) + 1) == ((seen + 1 : Nat) : Int)) = true := beq_iff_eq.2 (by omega)
        have gl2 : ((l2 : Int) == (l2 : Int)) = true := beq_self_eq_true _
        clear he1' he2'
        replace hend := Lib.hid hend
        refine wp_region_N [(0, 1), (1, 1), (2, 1)] (by kernel_rfl) ?_
        refine wpS_this [0, 1, 2] rfl (by kernel_rfl) (by simp only [pickL, nthL, List.cons_append, List.nil_append]; rfl) ?_
        repeat (go_big_quiet_step (fail))
        refine wpQuiet_nil ?_
        refine wpS_nil ?_
        refine then_normal ?_
        refine wp_cond_true rfl ?_
        refine wp_exit ?_
        refine block_out (by decide) (then_exit (then_exit (block_exit ?_)))
        refine then_normal ?_
        refine wp_seq ?_
        refine wp_region_N [(0, 1), (1, 3), (2, 1)] (by kernel_rfl) ?_
        refine wpS_this [0] rfl (by kernel_rfl) (by simp only [pickL, nthL, List.cons_append, List.nil_append]; rfl) ?_
        repeat (go_big_quiet_step (fail))
        refine wpQuiet_nil ?_
        refine wpS_doesU1 (i := 1) (d := some 84) (rem := []) rfl (by rfl) rfl Try.call10 (spcnt_d (oldT W0) _ T (rowOld hT) (by omega)) rfl HM31.out [0] rfl covS_nil (fun _ => rfl) rfl ?_
        rintro u40 W39 hm38 -
        obtain ⟨pcn, ccn, hm38q⟩ := cnt_formD hm38
        obtain ⟨rfl, hm38r⟩ := hm38q
        clear hm38
        have HM41 := Lib.hid hm38r
        clear hm38r
        simp only [Act.put, List.setIfInBounds_toArray, List.set_cons_succ, List.set_cons_zero]
        refine wpS_this [2] rfl (by kernel_rfl) (by simp only [pickL, nthL, List.cons_append, List.nil_append]; rfl) ?_
        repeat (go_big_quiet_step (fail))
        refine wpQuiet_nil ?_
        refine wpS_nil ?_
        refine then_normal ?_
        refine wp_seq ?_
        refine wp_region_N [(0, 1), (1, 1), (2, 1), (3, 1), (4, 1), (5, 1), (6, 1), (7, 1), (8, 1), (9, 1), (10, 1), (11, 1), (12, 1), (13, 1), (14, 1), (15, 1), (16, 1), (17, 1), (18, 1), (19, 1), (20, 1), (21, 1), (22, 1), (23, 1), (24, 3), (25, 1), (26, 1), (27, 1), (28, 1), (29, 3), (30, 1), (31, 1)] (by kernel_rfl) ?_
        refine wpS_this [0, 1, 2, 3, 4, 5, 6, 7, 8, 9, 10, 11] rfl (by kernel_rfl) (by simp only [pickL, nthL, List.cons_append, List.nil_append]; rfl) ?_
        repeat (go_big_quiet_step (fail))
        refine wpQuiet_nil ?_
        refine wpS_index (E := elemI) (i := 12) (d := some 97) rfl (by rfl) rfl rfl rfl (HM41.out.row 1 rfl (rowOld hT)) (hy.out) rfl ?_
        intro eb42 eo43 hc44
        simp only [Act.put, List.setIfInBounds_toArray, List.set_cons_succ, List.set_cons_zero]
        refine wpS_load1 (i := 13) (d := some 98) (u := .int .i64 (xn : Int)) rfl (by rfl) rfl rfl (hc44 0 _ rfl) Try.underlying3 rfl rfl ?_
        simp only [Act.put, List.setIfInBounds_toArray, List.set_cons_succ, List.set_cons_zero]
        refine wpS_index (E := elemI) (i := 14) (d := some 99) rfl (by rfl) rfl rfl rfl (HM41.out.row 0 rfl rdRow_reads) (hcx.out) rfl ?_
        intro eb45 eo46 hc47
        simp only [Act.put, List.setIfInBounds_toArray, List.set_cons_succ, List.set_cons_zero]
        refine wpS_load1 (i := 15) (d := some 100) (u := .int .i64 ((seen + 1 : Nat) : Int)) rfl (by rfl) rfl rfl (hc47 0 _ rfl) Try.underlying3 rfl rfl ?_
        simp only [Act.put, List.setIfInBounds_toArray, List.set_cons_succ, List.set_cons_zero]
        refine wpS_this [16, 17, 18, 19, 20, 21] rfl (by kernel_rfl) (by simp only [pickL, nthL, List.cons_append, List.nil_append]; rfl) ?_
        repeat (go_big_quiet_step (fail))
        refine wpQuiet_nil ?_
        refine wpS_index (E := elemI) (i := 22) (d := some 107) rfl (by rfl) rfl rfl rfl (HM41.out.row 1 rfl (rowOld hT)) (hy.out) rfl ?_
        intro eb48 eo49 hc50
        simp only [Act.put, List.setIfInBounds_toArray, List.set_cons_succ, List.set_cons_zero]
        refine wpS_load1 (i := 23) (d := some 108) (u := .int .i64 (xn : Int)) rfl (by rfl) rfl rfl (hc50 0 _ rfl) Try.underlying3 rfl rfl ?_
        simp only [Act.put, List.setIfInBounds_toArray, List.set_cons_succ, List.set_cons_zero]
        refine wpS_does2 (i := 24) (d := some 109) (rem := [_]) (out := [_, _]) rfl (by rfl) rfl Try.call11 (spleast_d (oldT W0) _ T (rowOld hT) (by omega) (xn : Int)) rfl rfl HM41.out [1] rfl covS_nil rfl rfl ?_
        rintro W52 hm51 -
        rw [hle.out]
        have HM53 := Lib.hid hm51
        clear hm51
        simp only [Act.put, List.setIfInBounds_toArray, List.set_cons_succ, List.set_cons_zero]
        refine wpS_this [25, 26, 27, 28] rfl (by kernel_rfl) (by simp only [pickL, nthL, List.cons_append, List.nil_append]; rfl) ?_
        repeat (go_big_quiet_step (fail))
        refine wpQuiet_nil ?_
        refine wpS_does0 (i := 29) (d := some 114) (rem := [_, _]) (out := [_, _]) rfl (by rfl) rfl Try.call7 (sawake_d)  HM53.out [] rfl covS_nil rfl rfl ?_
        rintro W55 hm54 -
        have HM56 := Lib.hid hm54
        clear hm54
        simp only [Act.put, List.setIfInBounds_toArray, List.set_cons_succ, List.set_cons_zero]
        refine wpS_this [30, 31] rfl (by kernel_rfl) (by simp only [pickL, nthL, List.cons_append, List.nil_append]; rfl) ?_
        repeat (go_big_quiet_step (fail))
        refine wpQuiet_nil ?_
        refine wpS_nil ?_
        refine then_normal ?_
        refine wp_ret ?_
        refine bodyPost_ret (results_tmp rfl _ _ _) rfl ?_
        exact does_ret (Mem.only (M := [_]) HM56.out [0] rfl) rfl rfl
      · have g20 : ((p2 : Int) == (a : Int)) = false := beq_eq_false_iff_ne.2 (by have := hp2.out; omega)
        refine wp_region_N [(0, 1), (1, 1), (2, 1)] (by kernel_rfl) ?_
        refine wpS_this [0, 1, 2] rfl (by kernel_rfl) (by simp only [pickL, nthL, List.cons_append, List.nil_append]; rfl) ?_
        repeat (go_big_quiet_step (fail))
        refine wpQuiet_nil ?_
        refine wpS_nil ?_
        refine then_normal ?_
        refine wp_cond_false rfl ?_
        refine wp_skip ?_
        refine block_normal ?_
        refine then_normal ?_
        refine wp_region_N [(0, 1), (1, 1)] (by kernel_rfl) ?_
        refine wpS_this [0, 1] rfl (by kernel_rfl) (by simp only [pickL, nthL, List.cons_append, List.nil_append]; rfl) ?_
        repeat (go_big_quiet_step (fail))
        refine wpQuiet_nil ?_
        refine wpS_nil ?_
        refine then_normal ?_
        refine ⟨by kernel_rfl, ?_⟩
        exact ⟨16 - (k + 1), by omega, k + 1, s2, seen + 1, l2, p2, rfl, rfl, rfl, rfl, rfl, rfl, hp2.out.symm, hks2, by omega, hr2.out, (Mem.only (M := [_]) HM31.out [0] rfl)⟩

end Go.Proofs.Ythibiejneggmoaa
