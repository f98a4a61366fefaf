/- Lead: LeadOne. -/
import Derived.Test.YtdfmfcbeebfdhaaLdA
namespace Go.Proofs.Ytdfmfcbeebfdhaa
open Go Go.RowKit Go.BigFrame

theorem x_ways (x : Int) (ld : Nat) : x < 0 ∨ (0 ≤ x ∧ (ld : Int) ≤ x) ∨ (∃ m : Nat, x = (m : Int) ∧ m < ld) := by
  by_cases h0 : x < 0
  · exact .inl h0
  · by_cases h1 : (ld : Int) ≤ x
    · exact .inr (.inl ⟨by omega, h1⟩)
    · exact .inr (.inr ⟨x.toNat, by omega, by omega⟩)
set_option maxHeartbeats 4000000 in
set_option maxRecDepth 100000 in
theorem one_d (W0 : World) (va : Value) (a : Rg) (ha : SrcE elemI W0 va a.p.2.2) (cut : Int) (vh : Value) (sh : List Int) (hh : SrcE elemI W0 vh sh) : Does Try.prog 5 #[rgV a va, vh, .int .i64 cut] [oldT W0] (.bool true) [oldT W0] := by
  intro w H hp
  have HM0 := Lib.hid (mem_refl hp)
  clear hp
  obtain ⟨pa, ca, rfl⟩ := row_form ha
  obtain ⟨ph, ch, rfl⟩ := row_form hh
  go_enter Try.func5, Try.ntmps5
  refine wp_seq ?_
  refine wp_region_N [(0, 3), (1, 1)] (by kernel_rfl) ?_
  refine wpS_boxA (i := 0) (dd := 3) rfl (by rfl) rfl rfl HM0.out covS_nil rfl ?_
  rintro b3 W2 hm1 -
  have HM4 := Lib.hid hm1
  clear hm1
  simp only [Act.put, List.setIfInBounds_toArray, List.set_cons_succ, List.set_cons_zero]
  refine wpS_this [1] rfl (by kernel_rfl) (by simp only [pickL, nthL, List.cons_append, List.nil_append]; rfl) ?_
  repeat (go_big_quiet_step (fail))
  refine wpQuiet_nil ?_
  refine wpS_nil ?_
  refine then_normal ?_
  refine wp_seq ?_
  refine wp_seq ?_
  rcases hvy1h ⟨a, pa, a.p.2.2.length, ca⟩ sh with ⟨hw, hfw, hl1⟩ | ⟨hw, hfw, hl1⟩ | ⟨hw, hfw⟩
  · replace hw : a.p.2.2.length ≤ 100 := hw
    replace hfw : Hid (hvy 0 [⟨a, pa, a.p.2.2.length, ca⟩] = 0) := Lib.hid hfw
    have la : a.p.2.2.length ≤ 1000 := by omega
    clear hw
    have g60h : decide (60 < sh.length) = false := decide_eq_false (by omega)
    have g60h' : decide ((60 : Int) < (sh.length : Int)) = false := decide_eq_false (by omega)
    have lh : sh.length ≤ 1000 := by omega
    refine wp_region_N [(0, 1), (1, 3), (2, 3), (3, 1), (4, 1), (5, 1), (6, 1), (7, 1), (8, 1)] (by kernel_rfl) ?_
    refine wpS_loadA (i := 0) (d := some 12) (cells := rgC (a) (.slice pa a.p.2.2.length ca)) rfl (by rfl) rfl rfl (HM4.out.sub 0 rfl (fun k u h => by rw [Nat.zero_add]; exact h)) Try.underlying30 rfl (by kernel_rfl) rfl ?_
    simp only [Act.put, List.setIfInBounds_toArray, List.set_cons_succ, List.set_cons_zero]
    refine wpS_buildN elemR (i := 1) (dd := 13) (n := 1) (xs := [⟨a, pa, a.p.2.2.length, ca⟩]) (cs := (rgC a (.slice pa a.p.2.2.length ca) ++ []).toArray) rfl (by rfl) (fun _ => by kernel_rfl) rfl rfl HM4.out covS_nil rfl ?_
    rintro b7 W8 hm9 -
    have HM10 := Lib.hid hm9
    clear hm9
    simp only [Act.put, List.setIfInBounds_toArray, List.set_cons_succ, List.set_cons_zero]
    refine wpS_does1 (i := 2) (d := some 14) (rem := [_, _]) (out := [_, _, _]) rfl (by rfl) rfl Try.call8 (heavy_d (rowT elemR _ _) _ _ rowOwnE (Nat.le_of_ble_eq_true rfl)) rfl HM10.out [0] rfl covS_nil rfl rfl ?_
    rintro W12 hm11 -
    rw [hfw.out]
    have HM13 := Lib.hid hm11
    clear hm11
    simp only [Act.put, List.setIfInBounds_toArray, List.set_cons_succ, List.set_cons_zero]
    refine wpS_this [3, 4, 5, 6, 7, 8] rfl (by kernel_rfl) (by simp only [pickL, nthL, List.cons_append, List.nil_append]; rfl) ?_
    repeat (go_big_quiet_step (fail))
    refine wpQuiet_nil ?_
    refine wpS_nil ?_
    refine then_normal ?_
    refine wp_cond_false rfl ?_
    refine wp_skip ?_
    refine then_normal ?_
    refine wp_seq ?_
    obtain ⟨z1, hz1'⟩ := int_letter (leaderR a sh)
    have hz1 := Lib.hid hz1'
    clear hz1'
    refine wp_region_N [(0, 1), (1, 1), (2, 3), (3, 1)] (by kernel_rfl) ?_
    refine wpS_loadA (i := 0) (d := some 22) (cells := rgC (a) (.slice pa a.p.2.2.length ca)) rfl (by rfl) rfl rfl (HM13.out.sub 1 rfl (fun k u h => by rw [Nat.zero_add]; exact h)) Try.underlying30 rfl (by kernel_rfl) rfl ?_
    simp only [Act.put, List.setIfInBounds_toArray, List.set_cons_succ, List.set_cons_zero]
    refine wpS_this [1] rfl (by kernel_rfl) (by simp only [pickL, nthL, List.cons_append, List.nil_append]; rfl) ?_
    repeat (go_big_quiet_step (fail))
    refine wpQuiet_nil ?_
    refine wpS_does2 (i := 2) (d := some 24) (rem := [_, _]) (out := [_, _, _]) rfl (by rfl) rfl Try.call14 (gleader_d (oldT W0) _ a (srcOld ha) la _ sh (srcOld hh).row lh) rfl rfl HM13.out [2] rfl covS_nil rfl rfl ?_
    rintro W15 hm14 -
    rw [hz1.out]
    have HM16 := Lib.hid hm14
    clear hm14
    simp only [Act.put, List.setIfInBounds_toArray, List.set_cons_succ, List.set_cons_zero]
    refine wpS_this [3] rfl (by kernel_rfl) (by simp only [pickL, nthL, List.cons_append, List.nil_append]; rfl) ?_
    repeat (go_big_quiet_step (fail))
    refine wpQuiet_nil ?_
    refine wpS_nil ?_
    refine then_normal ?_
    refine wp_seq ?_
    obtain ⟨kk, hkl, hmod'⟩ := mod_small ((sh.length : Int) + 1) (by omega) (by omega) cut
    have hkk : kk ≤ sh.length := by omega
    clear hkl
    have hmod := Lib.hid hmod'
    clear hmod'
    obtain ⟨hcap, hlc⟩ := src_cap hh
    clear hlc
    obtain ⟨z2, hz2'⟩ := int_letter (leaderR a (sh.take kk))
    have hz2 := Lib.hid hz2'
    clear hz2'
    refine wp_region_M (fun k => k ∈ ([b3] : List Nat)) [(0, 1), (1, 1), (2, 1), (3, 1), (4, 1), (5, 1), (6, 1), (7, 1), (8, 1), (9, 1), (10, 1), (11, 3), (12, 1)] (by kernel_rfl) (by kernel_rfl) HM16.out ?_
    intro W17 hm18
    have HM19 := Lib.hid hm18
    clear hm18
    refine wpS_loadA (i := 0) (d := some 25) (cells := rgC (a) (.slice pa a.p.2.2.length ca)) rfl (by rfl) rfl rfl (HM19.out.sub 2 rfl (fun k u h => by rw [Nat.zero_add]; exact h)) Try.underlying30 rfl (by kernel_rfl) rfl ?_
    simp only [Act.put, List.setIfInBounds_toArray, List.set_cons_succ, List.set_cons_zero]
    refine wpS_this [1, 2, 3, 4, 5, 6, 7, 8] rfl (by kernel_rfl) (by simp only [pickL, nthL, List.cons_append, List.nil_append]; rfl) ?_
    repeat (go_big_quiet_step (fail))
    refine wpQuiet_nil ?_
    refine wpS_this [9] rfl (by kernel_rfl) (by simp only [pickL, nthL, List.cons_append, List.nil_append]; rfl) ?_
    repeat (go_big_quiet_step (fail))
    refine wpQuiet_nil ?_
    rw [hmod.out]
    refine wpS_this [10] rfl (by kernel_rfl) (by simp only [pickL, nthL, List.cons_append, List.nil_append]; rfl) ?_
    repeat (go_big_quiet_step (fail))
    refine wpQuiet_nil ?_
    refine wpS_does2 (i := 11) (d := some 36) (rem := [_, _]) (out := [_, _, _]) rfl (by rfl) rfl Try.call14 (gleader_d (oldT W0) _ a (srcOld ha) la _ (sh.take kk) ((srcOld hh).take (by omega)).row (by rw [List.length_take]; omega)) rfl rfl HM19.out [0] rfl (covS_box 1 rfl covS_nil) rfl rfl ?_
    rintro W21 hm20 hg22
    rw [hz2.out]
    have HM23 := Lib.hid hm20
    clear hm20
    simp only [Act.put, List.setIfInBounds_toArray, List.set_cons_succ, List.set_cons_zero]
    refine wpS_this [12] rfl (by kernel_rfl) (by simp only [pickL, nthL, List.cons_append, List.nil_append]; rfl) ?_
    repeat (go_big_quiet_step (fail))
    refine wpQuiet_nil ?_
    refine wpS_nil ?_
    refine then_normal ?_
    refine wp_seq ?_
    refine wp_seq ?_
    rcases one_ways a sh kk with ⟨e1, e2⟩ | ⟨ld, e1, hl8, hin, hno, hcut⟩
    · have e1' : z1 = -1 := hz1.out.symm.trans e1
      have e2' : z2 = -1 := hz2.out.symm.trans e2
      subst e1' e2'
      clear e1 e2
      refine wp_region_N [(0, 1), (1, 1)] (by kernel_rfl) ?_
      refine wpS_this [0, 1] rfl (by kernel_rfl) (by simp only [pickL, nthL, List.cons_append, List.nil_append]; rfl) ?_
      repeat (go_big_quiet_step (fail))
      refine wpQuiet_nil ?_
      refine wpS_nil ?_
      refine then_normal ?_
      refine wp_cond_true rfl ?_
      refine wp_seq ?_
      refine wp_region_N [(0, 1), (1, 1), (2, 1), (3, 3), (4, 1), (5, 1)] (by kernel_rfl) ?_
      refine wpS_this [0, 1, 2] rfl (by kernel_rfl) (by simp only [pickL, nthL, List.cons_append, List.nil_append]; rfl) ?_
      repeat (go_big_quiet_step (fail))
      refine wpQuiet_nil ?_
      refine wpS_does0 (i := 3) (d := some 42) (rem := [_, _, _]) (out := [_, _, _]) rfl (by rfl) rfl Try.call9 (lawake_d)  HM23.out [] rfl covS_nil rfl rfl ?_
      rintro W25 hm24 -
      have HM26 := Lib.hid hm24
      clear hm24
      simp only [Act.put, List.setIfInBounds_toArray, List.set_cons_succ, List.set_cons_zero]
      refine wpS_this [4, 5] rfl (by kernel_rfl) (by simp only [pickL, nthL, List.cons_append, List.nil_append]; rfl) ?_
      repeat (go_big_quiet_step (fail))
      refine wpQuiet_nil ?_
      refine wpS_nil ?_
      refine then_normal ?_
      refine wp_ret ?_
      refine then_ret ?_
      refine bodyPost_ret (results_tmp rfl _ _ _) rfl ?_
      exact does_ret (Mem.only (M := [_]) HM26.out [0] rfl) rfl rfl
    · have e1' : z1 = (ld : Int) := hz1.out.symm.trans e1
      subst e1'
      clear e1
      have g1 : ((ld : Int) == -1) = false := beq_eq_false_iff_ne.2 (by omega)
      have g0 : decide ((ld : Int) < 0) = false := decide_eq_false (by omega)
      have g8 : decide ((8 : Int) ≤ (ld : Int)) = false := decide_eq_false (by omega)
      have g8n : decide (8 ≤ ld) = false := decide_eq_false (by omega)
      have g7 : decide ((ld : Int) < 8) = true := decide_eq_true (by omega)
      have g7n : decide (ld < 8) = true := decide_eq_true (by omega)
      rw [hz2.out] at hcut
      replace hin := Lib.hid hin
      replace hno := Lib.hid hno
      replace hcut := Lib.hid hcut
      refine wp_region_N [(0, 1), (1, 1)] (by kernel_rfl) ?_
      refine wpS_this [0, 1] rfl (by kernel_rfl) (by simp only [pickL, nthL, List.cons_append, List.nil_append]; rfl) ?_
      repeat (go_big_quiet_step (fail))
      refine wpQuiet_nil ?_
      refine wpS_nil ?_
      refine then_normal ?_
      refine wp_cond_false rfl ?_
      refine wp_skip ?_
      refine then_normal ?_
      refine wp_seq ?_
      refine wp_seq ?_
      refine wp_region_N [(0, 1), (1, 1), (2, 1), (3, 1), (4, 1), (5, 1)] (by kernel_rfl) ?_
      refine wpS_this [0, 1, 2, 3, 4, 5] rfl (by kernel_rfl) (by simp only [pickL, nthL, List.cons_append, List.nil_append]; rfl) ?_
      repeat (go_big_quiet_step (fail))
      refine wpQuiet_nil ?_
      refine wpS_nil ?_
      refine then_normal ?_
      refine wp_cond_false rfl ?_
      refine wp_skip ?_
      refine then_normal ?_
      refine wp_seq ?_
      refine wp_region_N [(0, 1)] (by kernel_rfl) ?_
      refine wpS_this [0] rfl (by kernel_rfl) (by simp only [pickL, nthL, List.cons_append, List.nil_append]; rfl) ?_
      repeat (go_big_quiet_step (fail))
      refine wpQuiet_nil ?_
      refine wpS_nil ?_
      refine then_normal ?_
      refine wp_seq ?_
      refine wp_seq ?_
      refine wp_region_N [(0, 1), (1, 1), (2, 1)] (by kernel_rfl) ?_
      refine wpS_this [0, 1, 2] rfl (by kernel_rfl) (by simp only [pickL, nthL, List.cons_append, List.nil_append]; rfl) ?_
      repeat (go_big_quiet_step (fail))
      refine wpQuiet_nil ?_
      refine wpS_nil ?_
      refine then_normal ?_
      refine wp_block ?_
      refine wp_loop_F [6, 9, 11, 52, 53, 54, 55, 56, 57, 58, 59, 60, 61, 62, 63, 64, 65, 66, 67, 68, 69, 70, 71, 72, 73, 74, 75, 76, 77, 78, 79, 80, 81, 82, 83] (fun n vs W' => ∃ (k : Nat) (q : Bool), n = sh.length - k ∧ vs 52 = .int .i64 (k : Int) ∧ vs 9 = .bool q ∧ k ≤ sh.length ∧ (sh.take k).contains (ld : Int) = q ∧ Mem [boxT b3 (.cells (rgC a (.slice pa a.p.2.2.length ca)).toArray 30 (0, 0)), oldT W0] H w W') (n0 := sh.length) ?_ ?_
      · exact ⟨0, false, rfl, rfl, rfl, Nat.zero_le _, rfl, (Mem.only (M := [_, _]) HM23.out [2, 0] rfl)⟩
      rintro n vs W' ⟨k, q, rfl, e52, e9, hk, hq', hm⟩
      simp only [putAll, List.map_cons, List.map_nil, Act.put, List.setIfInBounds_toArray, List.set_cons_succ, List.set_cons_zero]
      rw [e52, e9]
      clear e52 e9
      have hq := Lib.hid hq'
      clear hq'
      have HM27 := Lib.hid hm
      clear hm
      refine wp_seq ?_
      refine wp_region_N [(0, 1)] (by kernel_rfl) ?_
      refine wpS_this [0] rfl (by kernel_rfl) (by simp only [pickL, nthL, List.cons_append, List.nil_append]; rfl) ?_
      repeat (go_big_quiet_step (fail))
      refine wpQuiet_nil ?_
      refine wpS_nil ?_
      refine then_normal ?_
      refine wp_seq ?_
      refine wp_cond_split rfl (fun h28 => ?_) (fun h28 => ?_)
      · have hk1 : k + 1 ≤ sh.length := by have : (k : Int) < ((sh.length : Nat) : Int) := (by simpa using h28); omega
        clear h28
        obtain ⟨x, hx'⟩ : ∃ y, sh[k]? = some y := ⟨_, List.getElem?_eq_getElem (hk1)⟩
        have hx := Lib.hid hx'
        clear hx'
        refine wp_skip ?_
        refine then_normal ?_
        refine wp_seq ?_
        refine wp_block ?_
        refine wp_seq ?_
        refine wp_region_N [(0, 1), (1, 1), (2, 1)] (by kernel_rfl) ?_
        refine wpS_index (E := elemI) (i := 0) (d := some 54) rfl (by rfl) rfl rfl rfl (HM27.out.row 1 rfl (srcOld hh).row) (hx.out) rfl ?_
        intro eb29 eo30 hc31
        simp only [Act.put, List.setIfInBounds_toArray, List.set_cons_succ, List.set_cons_zero]
        refine wpS_load1 (i := 1) (d := some 55) (u := .int .i64 x) rfl (by rfl) rfl rfl (hc31 0 _ rfl) Try.underlying3 rfl rfl ?_
        simp only [Act.put, List.setIfInBounds_toArray, List.set_cons_succ, List.set_cons_zero]
        refine wpS_this [2] rfl (by kernel_rfl) (by simp only [pickL, nthL, List.cons_append, List.nil_append]; rfl) ?_
        repeat (go_big_quiet_step (fail))
        refine wpQuiet_nil ?_
        refine wpS_nil ?_
        refine then_normal ?_
        refine wp_seq ?_
        rcases (show q = true ∨ (q = false ∧ (x == (ld : Int)) = true) ∨ (q = false ∧ (x == (ld : Int)) = false) from by cases q <;> cases (x == (ld : Int)) <;> simp) with rfl | ⟨rfl, hxl⟩ | ⟨rfl, hxl⟩
        · skip
          refine wp_region_N [(0, 1), (1, 1), (2, 1), (3, 1), (4, 1), (5, 1), (6, 1)] (by kernel_rfl) ?_
          refine wpS_this [0, 1, 2, 3, 4, 5, 6] rfl (by kernel_rfl) (by simp only [pickL, nthL, List.cons_append, List.nil_append]; rfl) ?_
          repeat (go_big_quiet_step (fail))
          refine wpQuiet_nil ?_
          refine wpS_nil ?_
          refine then_normal ?_
          refine wp_seq ?_
          rcases x_ways x ld with h1 | ⟨h1, h2⟩ | ⟨m, rfl, hml⟩
          · have gx : decide (0 ≤ x) = false := decide_eq_false (by omega)
            clear h1
            refine wp_region_N [(0, 1), (1, 1), (2, 1), (3, 1), (4, 1), (5, 1), (6, 1), (7, 1), (8, 1), (9, 1), (10, 1), (11, 1), (12, 1), (13, 1), (14, 1), (15, 1), (16, 1), (17, 1), (18, 1), (19, 1), (20, 1)] (by kernel_rfl) ?_
            refine wpS_this [0, 1, 2, 3, 4, 5, 6, 7, 8, 9] rfl (by kernel_rfl) (by simp only [pickL, nthL, List.cons_append, List.nil_append]; rfl) ?_
            repeat (go_big_quiet_step (fail))
            refine wpQuiet_nil ?_
            refine wpS_skip (i := 10) (d := some 72) rfl (by rfl) rfl ?_
            simp only [Act.put, List.setIfInBounds_toArray, List.set_cons_succ, List.set_cons_zero]
            refine wpS_skip (i := 11) (d := some 73) rfl (by rfl) rfl ?_
            simp only [Act.put, List.setIfInBounds_toArray, List.set_cons_succ, List.set_cons_zero]
            refine wpS_this [12, 13, 14, 15] rfl (by kernel_rfl) (by simp only [pickL, nthL, List.cons_append, List.nil_append]; rfl) ?_
            repeat (go_big_quiet_step (fail))
            refine wpQuiet_nil ?_
            refine wpS_skip (i := 16) (d := some 78) rfl (by rfl) rfl ?_
            simp only [Act.put, List.setIfInBounds_toArray, List.set_cons_succ, List.set_cons_zero]
            refine wpS_skip (i := 17) (d := some 79) rfl (by rfl) rfl ?_
            simp only [Act.put, List.setIfInBounds_toArray, List.set_cons_succ, List.set_cons_zero]
            refine wpS_this [18, 19, 20] rfl (by kernel_rfl) (by simp only [pickL, nthL, List.cons_append, List.nil_append]; rfl) ?_
            repeat (go_big_quiet_step (fail))
            refine wpQuiet_nil ?_
            refine wpS_nil ?_
            refine then_normal ?_
            refine wp_cond_false rfl ?_
            refine wp_skip ?_
            refine block_normal ?_
            refine then_normal ?_
            refine wp_region_N [(0, 1), (1, 1)] (by kernel_rfl) ?_
            refine wpS_this [0, 1] rfl (by kernel_rfl) (by simp only [pickL, nthL, List.cons_append, List.nil_append]; rfl) ?_
            repeat (go_big_quiet_step (fail))
            refine wpQuiet_nil ?_
            refine wpS_nil ?_
            refine then_normal ?_
            refine ⟨by kernel_rfl, ?_⟩
            refine ⟨sh.length - (k + 1), by omega, k + 1, _, rfl, rfl, rfl, hk1, ?_, (Mem.only (M := [_, _]) HM27.out [0, 0] rfl)⟩
            rw [contains_take hx.out, hq.out]
            rfl
          · have gx : decide (0 ≤ x) = true := decide_eq_true (by omega)
            have gy : decide (x < (ld : Int)) = false := decide_eq_false (by omega)
            clear h1 h2
            refine wp_region_N [(0, 1), (1, 1), (2, 1), (3, 1), (4, 1), (5, 1), (6, 1), (7, 1), (8, 1), (9, 1), (10, 1), (11, 1), (12, 1), (13, 1), (14, 1), (15, 1), (16, 1), (17, 1), (18, 1), (19, 1), (20, 1)] (by kernel_rfl) ?_
            refine wpS_this [0, 1, 2, 3, 4, 5, 6, 7, 8, 9] rfl (by kernel_rfl) (by simp only [pickL, nthL, List.cons_append, List.nil_append]; rfl) ?_
            repeat (go_big_quiet_step (fail))
            refine wpQuiet_nil ?_
            refine wpS_skip (i := 10) (d := some 72) rfl (by rfl) rfl ?_
            simp only [Act.put, List.setIfInBounds_toArray, List.set_cons_succ, List.set_cons_zero]
            refine wpS_skip (i := 11) (d := some 73) rfl (by rfl) rfl ?_
            simp only [Act.put, List.setIfInBounds_toArray, List.set_cons_succ, List.set_cons_zero]
            refine wpS_this [12, 13, 14, 15] rfl (by kernel_rfl) (by simp only [pickL, nthL, List.cons_append, List.nil_append]; rfl) ?_
            repeat (go_big_quiet_step (fail))
            refine wpQuiet_nil ?_
            refine wpS_skip (i := 16) (d := some 78) rfl (by rfl) rfl ?_
            simp only [Act.put, List.setIfInBounds_toArray, List.set_cons_succ, List.set_cons_zero]
            refine wpS_skip (i := 17) (d := some 79) rfl (by rfl) rfl ?_
            simp only [Act.put, List.setIfInBounds_toArray, List.set_cons_succ, List.set_cons_zero]
            refine wpS_this [18, 19, 20] rfl (by kernel_rfl) (by simp only [pickL, nthL, List.cons_append, List.nil_append]; rfl) ?_
            repeat (go_big_quiet_step (fail))
            refine wpQuiet_nil ?_
            refine wpS_nil ?_
            refine then_normal ?_
            refine wp_cond_false rfl ?_
            refine wp_skip ?_
            refine block_normal ?_
            refine then_normal ?_
            refine wp_region_N [(0, 1), (1, 1)] (by kernel_rfl) ?_
            refine wpS_this [0, 1] rfl (by kernel_rfl) (by simp only [pickL, nthL, List.cons_append, List.nil_append]; rfl) ?_
            repeat (go_big_quiet_step (fail))
            refine wpQuiet_nil ?_
            refine wpS_nil ?_
            refine then_normal ?_
            refine ⟨by kernel_rfl, ?_⟩
            refine ⟨sh.length - (k + 1), by omega, k + 1, _, rfl, rfl, rfl, hk1, ?_, (Mem.only (M := [_, _]) HM27.out [0, 0] rfl)⟩
            rw [contains_take hx.out, hq.out]
            rfl
          · have gx : decide ((0 : Int) ≤ (m : Int)) = true := decide_eq_true (by omega)
            have gy : decide ((m : Int) < (ld : Int)) = true := decide_eq_true (by omega)
            have gyn : decide (m < ld) = true := decide_eq_true (by omega)
            have hm8 : m < 8 := by omega
            have hns : ¬ (2 ≤ a.s m ∧ a.s m ≤ 3) := fun h => hno.out m hml h (List.mem_of_getElem? hx.out)
            have g2 : (a.s m == 2) = false := beq_eq_false_iff_ne.2 (by omega)
            have g3 : (a.s m == 3) = false := beq_eq_false_iff_ne.2 (by omega)
            clear hns
            refine wp_region_N [(0, 1), (1, 1), (2, 1), (3, 1), (4, 1), (5, 1), (6, 1), (7, 1), (8, 1), (9, 1), (10, 1), (11, 1), (12, 1), (13, 1), (14, 1), (15, 1), (16, 1), (17, 1), (18, 1), (19, 1), (20, 1)] (by kernel_rfl) ?_
            refine wpS_this [0, 1, 2, 3, 4, 5, 6, 7, 8, 9] rfl (by kernel_rfl) (by simp only [pickL, nthL, List.cons_append, List.nil_append]; rfl) ?_
            repeat (go_big_quiet_step (fail))
            refine wpQuiet_nil ?_
            refine wpS_read (i := 10) (d := some 72) rfl (by rfl) (run_addrSt (hm8) rfl rfl rfl) rfl ?_
            simp only [Act.put, List.setIfInBounds_toArray, List.set_cons_succ, List.set_cons_zero]
            refine wpS_load1 (i := 11) (d := some 73) (u := _) rfl (by rfl) rfl rfl (HM27.out.sub1 0 rfl (rgC_s (hm8))) Try.underlying3 rfl rfl ?_
            simp only [Act.put, List.setIfInBounds_toArray, List.set_cons_succ, List.set_cons_zero]
            refine wpS_this [12, 13, 14, 15] rfl (by kernel_rfl) (by simp only [pickL, nthL, List.cons_append, List.nil_append]; rfl) ?_
            repeat (go_big_quiet_step (fail))
            refine wpQuiet_nil ?_
            refine wpS_read (i := 16) (d := some 78) rfl (by rfl) (run_addrSt (hm8) rfl rfl rfl) rfl ?_
            simp only [Act.put, List.setIfInBounds_toArray, List.set_cons_succ, List.set_cons_zero]
            refine wpS_load1 (i := 17) (d := some 79) (u := _) rfl (by rfl) rfl rfl (HM27.out.sub1 0 rfl (rgC_s (hm8))) Try.underlying3 rfl rfl ?_
            simp only [Act.put, List.setIfInBounds_toArray, List.set_cons_succ, List.set_cons_zero]
            refine wpS_this [18, 19, 20] rfl (by kernel_rfl) (by simp only [pickL, nthL, List.cons_append, List.nil_append]; rfl) ?_
            repeat (go_big_quiet_step (fail))
            refine wpQuiet_nil ?_
            refine wpS_nil ?_
            refine then_normal ?_
            refine wp_cond_false rfl ?_
            refine wp_skip ?_
            refine block_normal ?_
            refine then_normal ?_
            refine wp_region_N [(0, 1), (1, 1)] (by kernel_rfl) ?_
            refine wpS_this [0, 1] rfl (by kernel_rfl) (by simp only [pickL, nthL, List.cons_append, List.nil_append]; rfl) ?_
            repeat (go_big_quiet_step (fail))
            refine wpQuiet_nil ?_
            refine wpS_nil ?_
            refine then_normal ?_
            refine ⟨by kernel_rfl, ?_⟩
            refine ⟨sh.length - (k + 1), by omega, k + 1, _, rfl, rfl, rfl, hk1, ?_, (Mem.only (M := [_, _]) HM27.out [0, 0] rfl)⟩
            rw [contains_take hx.out, hq.out]
            rfl
        · skip
          refine wp_region_N [(0, 1), (1, 1), (2, 1), (3, 1), (4, 1), (5, 1), (6, 1)] (by kernel_rfl) ?_
          refine wpS_this [0, 1, 2, 3, 4, 5, 6] rfl (by kernel_rfl) (by simp only [pickL, nthL, List.cons_append, List.nil_append]; rfl) ?_
          repeat (go_big_quiet_step (fail))
          refine wpQuiet_nil ?_
          refine wpS_nil ?_
          refine then_normal ?_
          refine wp_seq ?_
          rcases x_ways x ld with h1 | ⟨h1, h2⟩ | ⟨m, rfl, hml⟩
          · have gx : decide (0 ≤ x) = false := decide_eq_false (by omega)
            clear h1
            refine wp_region_N [(0, 1), (1, 1), (2, 1), (3, 1), (4, 1), (5, 1), (6, 1), (7, 1), (8, 1), (9, 1), (10, 1), (11, 1), (12, 1), (13, 1), (14, 1), (15, 1), (16, 1), (17, 1), (18, 1), (19, 1), (20, 1)] (by kernel_rfl) ?_
            refine wpS_this [0, 1, 2, 3, 4, 5, 6, 7, 8, 9] rfl (by kernel_rfl) (by simp only [pickL, nthL, List.cons_append, List.nil_append]; rfl) ?_
            repeat (go_big_quiet_step (fail))
            refine wpQuiet_nil ?_
            refine wpS_skip (i := 10) (d := some 72) rfl (by rfl) rfl ?_
            simp only [Act.put, List.setIfInBounds_toArray, List.set_cons_succ, List.set_cons_zero]
            refine wpS_skip (i := 11) (d := some 73) rfl (by rfl) rfl ?_
            simp only [Act.put, List.setIfInBounds_toArray, List.set_cons_succ, List.set_cons_zero]
            refine wpS_this [12, 13, 14, 15] rfl (by kernel_rfl) (by simp only [pickL, nthL, List.cons_append, List.nil_append]; rfl) ?_
            repeat (go_big_quiet_step (fail))
            refine wpQuiet_nil ?_
            refine wpS_skip (i := 16) (d := some 78) rfl (by rfl) rfl ?_
            simp only [Act.put, List.setIfInBounds_toArray, List.set_cons_succ, List.set_cons_zero]
            refine wpS_skip (i := 17) (d := some 79) rfl (by rfl) rfl ?_
            simp only [Act.put, List.setIfInBounds_toArray, List.set_cons_succ, List.set_cons_zero]
            refine wpS_this [18, 19, 20] rfl (by kernel_rfl) (by simp only [pickL, nthL, List.cons_append, List.nil_append]; rfl) ?_
            repeat (go_big_quiet_step (fail))
            refine wpQuiet_nil ?_
            refine wpS_nil ?_
            refine then_normal ?_
            refine wp_cond_false rfl ?_
            refine wp_skip ?_
            refine block_normal ?_
            refine then_normal ?_
            refine wp_region_N [(0, 1), (1, 1)] (by kernel_rfl) ?_
            refine wpS_this [0, 1] rfl (by kernel_rfl) (by simp only [pickL, nthL, List.cons_append, List.nil_append]; rfl) ?_
            repeat (go_big_quiet_step (fail))
            refine wpQuiet_nil ?_
            refine wpS_nil ?_
            refine then_normal ?_
            refine ⟨by kernel_rfl, ?_⟩
            refine ⟨sh.length - (k + 1), by omega, k + 1, _, rfl, rfl, rfl, hk1, ?_, (Mem.only (M := [_, _]) HM27.out [0, 0] rfl)⟩
            rw [contains_take hx.out, hq.out, hxl]
            rfl
          · have gx : decide (0 ≤ x) = true := decide_eq_true (by omega)
            have gy : decide (x < (ld : Int)) = false := decide_eq_false (by omega)
            clear h1 h2
            refine wp_region_N [(0, 1), (1, 1), (2, 1), (3, 1), (4, 1), (5, 1), (6, 1), (7, 1), (8, 1), (9, 1), (10, 1), (11, 1), (12, 1), (13, 1), (14, 1), (15, 1), (16, 1), (17, 1), (18, 1), (19, 1), (20, 1)] (by kernel_rfl) ?_
            refine wpS_this [0, 1, 2, 3, 4, 5, 6, 7, 8, 9] rfl (by kernel_rfl) (by simp only [pickL, nthL, List.cons_append, List.nil_append]; rfl) ?_
            repeat (go_big_quiet_step (fail))
            refine wpQuiet_nil ?_
            refine wpS_skip (i := 10) (d := some 72) rfl (by rfl) rfl ?_
            simp only [Act.put, List.setIfInBounds_toArray, List.set_cons_succ, List.set_cons_zero]
            refine wpS_skip (i := 11) (d := some 73) rfl (by rfl) rfl ?_
            simp only [Act.put, List.setIfInBounds_toArray, List.set_cons_succ, List.set_cons_zero]
            refine wpS_this [12, 13, 14, 15] rfl (by kernel_rfl) (by simp only [pickL, nthL, List.cons_append, List.nil_append]; rfl) ?_
            repeat (go_big_quiet_step (fail))
            refine wpQuiet_nil ?_
            refine wpS_skip (i := 16) (d := some 78) rfl (by rfl) rfl ?_
            simp only [Act.put, List.setIfInBounds_toArray, List.set_cons_succ, List.set_cons_zero]
            refine wpS_skip (i := 17) (d := some 79) rfl (by rfl) rfl ?_
            simp only [Act.put, List.setIfInBounds_toArray, List.set_cons_succ, List.set_cons_zero]
            refine wpS_this [18, 19, 20] rfl (by kernel_rfl) (by simp only [pickL, nthL, List.cons_append, List.nil_append]; rfl) ?_
            repeat (go_big_quiet_step (fail))
            refine wpQuiet_nil ?_
            refine wpS_nil ?_
            refine then_normal ?_
            refine wp_cond_false rfl ?_
            refine wp_skip ?_
            refine block_normal ?_
            refine then_normal ?_
            refine wp_region_N [(0, 1), (1, 1)] (by kernel_rfl) ?_
            refine wpS_this [0, 1] rfl (by kernel_rfl) (by simp only [pickL, nthL, List.cons_append, List.nil_append]; rfl) ?_
            repeat (go_big_quiet_step (fail))
            refine wpQuiet_nil ?_
            refine wpS_nil ?_
            refine then_normal ?_
            refine ⟨by kernel_rfl, ?_⟩
            refine ⟨sh.length - (k + 1), by omega, k + 1, _, rfl, rfl, rfl, hk1, ?_, (Mem.only (M := [_, _]) HM27.out [0, 0] rfl)⟩
            rw [contains_take hx.out, hq.out, hxl]
            rfl
          · have gx : decide ((0 : Int) ≤ (m : Int)) = true := decide_eq_true (by omega)
            have gy : decide ((m : Int) < (ld : Int)) = true := decide_eq_true (by omega)
            have gyn : decide (m < ld) = true := decide_eq_true (by omega)
            have hm8 : m < 8 := by omega
            have hns : ¬ (2 ≤ a.s m ∧ a.s m ≤ 3) := fun h => hno.out m hml h (List.mem_of_getElem? hx.out)
            have g2 : (a.s m == 2) = false := beq_eq_false_iff_ne.2 (by omega)
            have g3 : (a.s m == 3) = false := beq_eq_false_iff_ne.2 (by omega)
            clear hns
            refine wp_region_N [(0, 1), (1, 1), (2, 1), (3, 1), (4, 1), (5, 1), (6, 1), (7, 1), (8, 1), (9, 1), (10, 1), (11, 1), (12, 1), (13, 1), (14, 1), (15, 1), (16, 1), (17, 1), (18, 1), (19, 1), (20, 1)] (by kernel_rfl) ?_
            refine wpS_this [0, 1, 2, 3, 4, 5, 6, 7, 8, 9] rfl (by kernel_rfl) (by simp only [pickL, nthL, List.cons_append, List.nil_append]; rfl) ?_
            repeat (go_big_quiet_step (fail))
            refine wpQuiet_nil ?_
            refine wpS_read (i := 10) (d := some 72) rfl (by rfl) (run_addrSt (hm8) rfl rfl rfl) rfl ?_
            simp only [Act.put, List.setIfInBounds_toArray, List.set_cons_succ, List.set_cons_zero]
            refine wpS_load1 (i := 11) (d := some 73) (u := _) rfl (by rfl) rfl rfl (HM27.out.sub1 0 rfl (rgC_s (hm8))) Try.underlying3 rfl rfl ?_
            simp only [Act.put, List.setIfInBounds_toArray, List.set_cons_succ, List.set_cons_zero]
            refine wpS_this [12, 13, 14, 15] rfl (by kernel_rfl) (by simp only [pickL, nthL, List.cons_append, List.nil_append]; rfl) ?_
            repeat (go_big_quiet_step (fail))
            refine wpQuiet_nil ?_
            refine wpS_read (i := 16) (d := some 78) rfl (by rfl) (run_addrSt (hm8) rfl rfl rfl) rfl ?_
            simp only [Act.put, List.setIfInBounds_toArray, List.set_cons_succ, List.set_cons_zero]
            refine wpS_load1 (i := 17) (d := some 79) (u := _) rfl (by rfl) rfl rfl (HM27.out.sub1 0 rfl (rgC_s (hm8))) Try.underlying3 rfl rfl ?_
            simp only [Act.put, List.setIfInBounds_toArray, List.set_cons_succ, List.set_cons_zero]
            refine wpS_this [18, 19, 20] rfl (by kernel_rfl) (by simp only [pickL, nthL, List.cons_append, List.nil_append]; rfl) ?_
            repeat (go_big_quiet_step (fail))
            refine wpQuiet_nil ?_
            refine wpS_nil ?_
            refine then_normal ?_
            refine wp_cond_false rfl ?_
            refine wp_skip ?_
            refine block_normal ?_
            refine then_normal ?_
            refine wp_region_N [(0, 1), (1, 1)] (by kernel_rfl) ?_
            refine wpS_this [0, 1] rfl (by kernel_rfl) (by simp only [pickL, nthL, List.cons_append, List.nil_append]; rfl) ?_
            repeat (go_big_quiet_step (fail))
            refine wpQuiet_nil ?_
            refine wpS_nil ?_
            refine then_normal ?_
            refine ⟨by kernel_rfl, ?_⟩
            refine ⟨sh.length - (k + 1), by omega, k + 1, _, rfl, rfl, rfl, hk1, ?_, (Mem.only (M := [_, _]) HM27.out [0, 0] rfl)⟩
            rw [contains_take hx.out, hq.out, hxl]
            rfl
        · skip
          refine wp_region_N [(0, 1), (1, 1), (2, 1), (3, 1), (4, 1), (5, 1), (6, 1)] (by kernel_rfl) ?_
          refine wpS_this [0, 1, 2, 3, 4, 5, 6] rfl (by kernel_rfl) (by simp only [pickL, nthL, List.cons_append, List.nil_append]; rfl) ?_
          repeat (go_big_quiet_step (fail))
          refine wpQuiet_nil ?_
          refine wpS_nil ?_
          refine then_normal ?_
          refine wp_seq ?_
          rcases x_ways x ld with h1 | ⟨h1, h2⟩ | ⟨m, rfl, hml⟩
          · have gx : decide (0 ≤ x) = false := decide_eq_false (by omega)
            clear h1
            refine wp_region_N [(0, 1), (1, 1), (2, 1), (3, 1), (4, 1), (5, 1), (6, 1), (7, 1), (8, 1), (9, 1), (10, 1), (11, 1), (12, 1), (13, 1), (14, 1), (15, 1), (16, 1), (17, 1), (18, 1), (19, 1), (20, 1)] (by kernel_rfl) ?_
            refine wpS_this [0, 1, 2, 3, 4, 5, 6, 7, 8, 9] rfl (by kernel_rfl) (by simp only [pickL, nthL, List.cons_append, List.nil_append]; rfl) ?_
            repeat (go_big_quiet_step (fail))
            refine wpQuiet_nil ?_
            refine wpS_skip (i := 10) (d := some 72) rfl (by rfl) rfl ?_
            simp only [Act.put, List.setIfInBounds_toArray, List.set_cons_succ, List.set_cons_zero]
            refine wpS_skip (i := 11) (d := some 73) rfl (by rfl) rfl ?_
            simp only [Act.put, List.setIfInBounds_toArray, List.set_cons_succ, List.set_cons_zero]
            refine wpS_this [12, 13, 14, 15] rfl (by kernel_rfl) (by simp only [pickL, nthL, List.cons_append, List.nil_append]; rfl) ?_
            repeat (go_big_quiet_step (fail))
            refine wpQuiet_nil ?_
            refine wpS_skip (i := 16) (d := some 78) rfl (by rfl) rfl ?_
            simp only [Act.put, List.setIfInBounds_toArray, List.set_cons_succ, List.set_cons_zero]
            refine wpS_skip (i := 17) (d := some 79) rfl (by rfl) rfl ?_
            simp only [Act.put, List.setIfInBounds_toArray, List.set_cons_succ, List.set_cons_zero]
            refine wpS_this [18, 19, 20] rfl (by kernel_rfl) (by simp only [pickL, nthL, List.cons_append, List.nil_append]; rfl) ?_
            repeat (go_big_quiet_step (fail))
            refine wpQuiet_nil ?_
            refine wpS_nil ?_
            refine then_normal ?_
            refine wp_cond_false rfl ?_
            refine wp_skip ?_
            refine block_normal ?_
            refine then_normal ?_
            refine wp_region_N [(0, 1), (1, 1)] (by kernel_rfl) ?_
            refine wpS_this [0, 1] rfl (by kernel_rfl) (by simp only [pickL, nthL, List.cons_append, List.nil_append]; rfl) ?_
            repeat (go_big_quiet_step (fail))
            refine wpQuiet_nil ?_
            refine wpS_nil ?_
            refine then_normal ?_
            refine ⟨by kernel_rfl, ?_⟩
            refine ⟨sh.length - (k + 1), by omega, k + 1, _, rfl, rfl, rfl, hk1, ?_, (Mem.only (M := [_, _]) HM27.out [0, 0] rfl)⟩
            rw [contains_take hx.out, hq.out, hxl]
            rfl
          · have gx : decide (0 ≤ x) = true := decide_eq_true (by omega)
            have gy : decide (x < (ld : Int)) = false := decide_eq_false (by omega)
            clear h1 h2
            refine wp_region_N [(0, 1), (1, 1), (2, 1), (3, 1), (4, 1), (5, 1), (6, 1), (7, 1), (8, 1), (9, 1), (10, 1), (11, 1), (12, 1), (13, 1), (14, 1), (15, 1), (16, 1), (17, 1), (18, 1), (19, 1), (20, 1)] (by kernel_rfl) ?_
            refine wpS_this [0, 1, 2, 3, 4, 5, 6, 7, 8, 9] rfl (by kernel_rfl) (by simp only [pickL, nthL, List.cons_append, List.nil_append]; rfl) ?_
            repeat (go_big_quiet_step (fail))
            refine wpQuiet_nil ?_
            refine wpS_skip (i := 10) (d := some 72) rfl (by rfl) rfl ?_
            simp only [Act.put, List.setIfInBounds_toArray, List.set_cons_succ, List.set_cons_zero]
            refine wpS_skip (i := 11) (d := some 73) rfl (by rfl) rfl ?_
            simp only [Act.put, List.setIfInBounds_toArray, List.set_cons_succ, List.set_cons_zero]
            refine wpS_this [12, 13, 14, 15] rfl (by kernel_rfl) (by simp only [pickL, nthL, List.cons_append, List.nil_append]; rfl) ?_
            repeat (go_big_quiet_step (fail))
            refine wpQuiet_nil ?_
            refine wpS_skip (i := 16) (d := some 78) rfl (by rfl) rfl ?_
            simp only [Act.put, List.setIfInBounds_toArray, List.set_cons_succ, List.set_cons_zero]
            refine wpS_skip (i := 17) (d := some 79) rfl (by rfl) rfl ?_
            simp only [Act.put, List.setIfInBounds_toArray, List.set_cons_succ, List.set_cons_zero]
            refine wpS_this [18, 19, 20] rfl (by kernel_rfl) (by simp only [pickL, nthL, List.cons_append, List.nil_append]; rfl) ?_
            repeat (go_big_quiet_step (fail))
            refine wpQuiet_nil ?_
            refine wpS_nil ?_
            refine then_normal ?_
            refine wp_cond_false rfl ?_
            refine wp_skip ?_
            refine block_normal ?_
            refine then_normal ?_
            refine wp_region_N [(0, 1), (1, 1)] (by kernel_rfl) ?_
            refine wpS_this [0, 1] rfl (by kernel_rfl) (by simp only [pickL, nthL, List.cons_append, List.nil_append]; rfl) ?_
            repeat (go_big_quiet_step (fail))
            refine wpQuiet_nil ?_
            refine wpS_nil ?_
            refine then_normal ?_
            refine ⟨by kernel_rfl, ?_⟩
            refine ⟨sh.length - (k + 1), by omega, k + 1, _, rfl, rfl, rfl, hk1, ?_, (Mem.only (M := [_, _]) HM27.out [0, 0] rfl)⟩
            rw [contains_take hx.out, hq.out, hxl]
            rfl
          · have gx : decide ((0 : Int) ≤ (m : Int)) = true := decide_eq_true (by omega)
            have gy : decide ((m : Int) < (ld : Int)) = true := decide_eq_true (by omega)
            have gyn : decide (m < ld) = true := decide_eq_true (by omega)
            have hm8 : m < 8 := by omega
            have hns : ¬ (2 ≤ a.s m ∧ a.s m ≤ 3) := fun h => hno.out m hml h (List.mem_of_getElem? hx.out)
            have g2 : (a.s m == 2) = false := beq_eq_false_iff_ne.2 (by omega)
            have g3 : (a.s m == 3) = false := beq_eq_false_iff_ne.2 (by omega)
            clear hns
            refine wp_region_N [(0, 1), (1, 1), (2, 1), (3, 1), (4, 1), (5, 1), (6, 1), (7, 1), (8, 1), (9, 1), (10, 1), (11, 1), (12, 1), (13, 1), (14, 1), (15, 1), (16, 1), (17, 1), (18, 1), (19, 1), (20, 1)] (by kernel_rfl) ?_
            refine wpS_this [0, 1, 2, 3, 4, 5, 6, 7, 8, 9] rfl (by kernel_rfl) (by simp only [pickL, nthL, List.cons_append, List.nil_append]; rfl) ?_
            repeat (go_big_quiet_step (fail))
            refine wpQuiet_nil ?_
            refine wpS_read (i := 10) (d := some 72) rfl (by rfl) (run_addrSt (hm8) rfl rfl rfl) rfl ?_
            simp only [Act.put, List.setIfInBounds_toArray, List.set_cons_succ, List.set_cons_zero]
            refine wpS_load1 (i := 11) (d := some 73) (u := _) rfl (by rfl) rfl rfl (HM27.out.sub1 0 rfl (rgC_s (hm8))) Try.underlying3 rfl rfl ?_
            simp only [Act.put, List.setIfInBounds_toArray, List.set_cons_succ, List.set_cons_zero]
            refine wpS_this [12, 13, 14, 15] rfl (by kernel_rfl) (by simp only [pickL, nthL, List.cons_append, List.nil_append]; rfl) ?_
            repeat (go_big_quiet_step (fail))
            refine wpQuiet_nil ?_
            refine wpS_read (i := 16) (d := some 78) rfl (by rfl) (run_addrSt (hm8) rfl rfl rfl) rfl ?_
            simp only [Act.put, List.setIfInBounds_toArray, List.set_cons_succ, List.set_cons_zero]
            refine wpS_load1 (i := 17) (d := some 79) (u := _) rfl (by rfl) rfl rfl (HM27.out.sub1 0 rfl (rgC_s (hm8))) Try.underlying3 rfl rfl ?_
            simp only [Act.put, List.setIfInBounds_toArray, List.set_cons_succ, List.set_cons_zero]
            refine wpS_this [18, 19, 20] rfl (by kernel_rfl) (by simp only [pickL, nthL, List.cons_append, List.nil_append]; rfl) ?_
            repeat (go_big_quiet_step (fail))
            refine wpQuiet_nil ?_
            refine wpS_nil ?_
            refine then_normal ?_
            refine wp_cond_false rfl ?_
            refine wp_skip ?_
            refine block_normal ?_
            refine then_normal ?_
            refine wp_region_N [(0, 1), (1, 1)] (by kernel_rfl) ?_
            refine wpS_this [0, 1] rfl (by kernel_rfl) (by simp only [pickL, nthL, List.cons_append, List.nil_append]; rfl) ?_
            repeat (go_big_quiet_step (fail))
            refine wpQuiet_nil ?_
            refine wpS_nil ?_
            refine then_normal ?_
            refine ⟨by kernel_rfl, ?_⟩
            refine ⟨sh.length - (k + 1), by omega, k + 1, _, rfl, rfl, rfl, hk1, ?_, (Mem.only (M := [_, _]) HM27.out [0, 0] rfl)⟩
            rw [contains_take hx.out, hq.out, hxl]
            rfl
      · have hkl : k = sh.length := by have : ¬ (k : Int) < (sh.length : Int) := (by simpa using h28); omega
        clear h28
        have hqt : q = true := by rw [← hq.out, hkl, List.take_length]; exact hin.out
        subst hqt
        replace hkl := Lib.hid hkl
        refine wp_exit ?_
        refine then_exit (then_exit (block_exit ?_))
        refine then_normal ?_
        refine wp_seq ?_
        rcases hcut.out with hc1 | hc2
        · subst hc1
          refine wp_region_N [(0, 1), (1, 1), (2, 1), (3, 1), (4, 1), (5, 1), (6, 1), (7, 1), (8, 1), (9, 1), (10, 1), (11, 1), (12, 1), (13, 1), (14, 1), (15, 3), (16, 1), (17, 1)] (by kernel_rfl) ?_
          refine wpS_this [0, 1, 2, 3, 4, 5, 6, 7, 8, 9, 10, 11, 12, 13, 14] rfl (by kernel_rfl) (by simp only [pickL, nthL, List.cons_append, List.nil_append]; rfl) ?_
          repeat (go_big_quiet_step (fail))
          refine wpQuiet_nil ?_
          refine wpS_does0 (i := 15) (d := some 99) (rem := [_, _]) (out := [_, _]) rfl (by rfl) rfl Try.call9 (lawake_d)  HM27.out [] rfl covS_nil rfl rfl ?_
          rintro W33 hm32 -
          have HM34 := Lib.hid hm32
          clear hm32
          simp only [Act.put, List.setIfInBounds_toArray, List.set_cons_succ, List.set_cons_zero]
          refine wpS_this [16, 17] rfl (by kernel_rfl) (by simp only [pickL, nthL, List.cons_append, List.nil_append]; rfl) ?_
          repeat (go_big_quiet_step (fail))
          refine wpQuiet_nil ?_
          refine wpS_nil ?_
          refine then_normal ?_
          refine wp_ret ?_
          refine bodyPost_ret (results_tmp rfl _ _ _) rfl ?_
          exact does_ret (Mem.only (M := [_]) HM34.out [1] rfl) rfl rfl
        · have gm : (z2 == -1) = false := beq_eq_false_iff_ne.2 (by omega)
          have gc : decide ((ld : Int) ≤ z2) = true := decide_eq_true (by omega)
          clear hc2
          refine wp_region_N [(0, 1), (1, 1), (2, 1), (3, 1), (4, 1), (5, 1), (6, 1), (7, 1), (8, 1), (9, 1), (10, 1), (11, 1), (12, 1), (13, 1), (14, 1), (15, 3), (16, 1), (17, 1)] (by kernel_rfl) ?_
          refine wpS_this [0, 1, 2, 3, 4, 5, 6, 7, 8, 9, 10, 11, 12, 13, 14] rfl (by kernel_rfl) (by simp only [pickL, nthL, List.cons_append, List.nil_append]; rfl) ?_
          repeat (go_big_quiet_step (fail))
          refine wpQuiet_nil ?_
          refine wpS_does0 (i := 15) (d := some 99) (rem := [_, _]) (out := [_, _]) rfl (by rfl) rfl Try.call9 (lawake_d)  HM27.out [] rfl covS_nil rfl rfl ?_
          rintro W36 hm35 -
          have HM37 := Lib.hid hm35
          clear hm35
          simp only [Act.put, List.setIfInBounds_toArray, List.set_cons_succ, List.set_cons_zero]
          refine wpS_this [16, 17] rfl (by kernel_rfl) (by simp only [pickL, nthL, List.cons_append, List.nil_append]; rfl) ?_
          repeat (go_big_quiet_step (fail))
          refine wpQuiet_nil ?_
          refine wpS_nil ?_
          refine then_normal ?_
          refine wp_ret ?_
          refine bodyPost_ret (results_tmp rfl _ _ _) rfl ?_
          exact does_ret (Mem.only (M := [_]) HM37.out [1] rfl) rfl rfl
  · replace hw : a.p.2.2.length ≤ 100 := hw
    replace hfw : Hid (hvy 0 [⟨a, pa, a.p.2.2.length, ca⟩] = 0) := Lib.hid hfw
    have la : a.p.2.2.length ≤ 1000 := by omega
    clear hw
    have g60h : decide (60 < sh.length) = true := decide_eq_true (by omega)
    have g60h' : decide ((60 : Int) < (sh.length : Int)) = true := decide_eq_true (by omega)
    refine wp_region_N [(0, 1), (1, 3), (2, 3), (3, 1), (4, 1), (5, 1), (6, 1), (7, 1), (8, 1)] (by kernel_rfl) ?_
    refine wpS_loadA (i := 0) (d := some 12) (cells := rgC (a) (.slice pa a.p.2.2.length ca)) rfl (by rfl) rfl rfl (HM4.out.sub 0 rfl (fun k u h => by rw [Nat.zero_add]; exact h)) Try.underlying30 rfl (by kernel_rfl) rfl ?_
    simp only [Act.put, List.setIfInBounds_toArray, List.set_cons_succ, List.set_cons_zero]
    refine wpS_buildN elemR (i := 1) (dd := 13) (n := 1) (xs := [⟨a, pa, a.p.2.2.length, ca⟩]) (cs := (rgC a (.slice pa a.p.2.2.length ca) ++ []).toArray) rfl (by rfl) (fun _ => by kernel_rfl) rfl rfl HM4.out covS_nil rfl ?_
    rintro b40 W41 hm42 -
    have HM43 := Lib.hid hm42
    clear hm42
    simp only [Act.put, List.setIfInBounds_toArray, List.set_cons_succ, List.set_cons_zero]
    refine wpS_does1 (i := 2) (d := some 14) (rem := [_, _]) (out := [_, _, _]) rfl (by rfl) rfl Try.call8 (heavy_d (rowT elemR _ _) _ _ rowOwnE (Nat.le_of_ble_eq_true rfl)) rfl HM43.out [0] rfl covS_nil rfl rfl ?_
    rintro W45 hm44 -
    rw [hfw.out]
    have HM46 := Lib.hid hm44
    clear hm44
    simp only [Act.put, List.setIfInBounds_toArray, List.set_cons_succ, List.set_cons_zero]
    refine wpS_this [3, 4, 5, 6, 7, 8] rfl (by kernel_rfl) (by simp only [pickL, nthL, List.cons_append, List.nil_append]; rfl) ?_
    repeat (go_big_quiet_step (fail))
    refine wpQuiet_nil ?_
    refine wpS_nil ?_
    refine then_normal ?_
    refine wp_cond_true rfl ?_
    refine wp_seq ?_
    refine wp_region_N [(0, 3), (1, 1)] (by kernel_rfl) ?_
    refine wpS_does0 (i := 0) (d := some 21) (rem := [_, _, _]) (out := [_, _, _]) rfl (by rfl) rfl Try.call9 (lawake_d)  HM46.out [] rfl covS_nil rfl rfl ?_
    rintro W48 hm47 -
    have HM49 := Lib.hid hm47
    clear hm47
    simp only [Act.put, List.setIfInBounds_toArray, List.set_cons_succ, List.set_cons_zero]
    refine wpS_this [1] rfl (by kernel_rfl) (by simp only [pickL, nthL, List.cons_append, List.nil_append]; rfl) ?_
    repeat (go_big_quiet_step (fail))
    refine wpQuiet_nil ?_
    refine wpS_nil ?_
    refine then_normal ?_
    refine wp_ret ?_
    refine then_ret ?_
    refine bodyPost_ret (results_tmp rfl _ _ _) rfl ?_
    exact does_ret (Mem.only (M := [_]) HM49.out [2] rfl) rfl rfl
  · clear hw
    obtain ⟨z, hz'⟩ := int_letter (hvy 0 [⟨a, pa, a.p.2.2.length, ca⟩])
    replace hfw : 0 < hvy 0 [⟨a, pa, a.p.2.2.length, ca⟩] := hfw
    rw [hz'] at hfw
    have gz : decide (0 < z) = true := decide_eq_true hfw
    clear hfw
    have hfw := Lib.hid hz'
    clear hz'
    refine wp_region_N [(0, 1), (1, 3), (2, 3), (3, 1), (4, 1), (5, 1), (6, 1), (7, 1), (8, 1)] (by kernel_rfl) ?_
    refine wpS_loadA (i := 0) (d := some 12) (cells := rgC (a) (.slice pa a.p.2.2.length ca)) rfl (by rfl) rfl rfl (HM4.out.sub 0 rfl (fun k u h => by rw [Nat.zero_add]; exact h)) Try.underlying30 rfl (by kernel_rfl) rfl ?_
    simp only [Act.put, List.setIfInBounds_toArray, List.set_cons_succ, List.set_cons_zero]
    refine wpS_buildN elemR (i := 1) (dd := 13) (n := 1) (xs := [⟨a, pa, a.p.2.2.length, ca⟩]) (cs := (rgC a (.slice pa a.p.2.2.length ca) ++ []).toArray) rfl (by rfl) (fun _ => by kernel_rfl) rfl rfl HM4.out covS_nil rfl ?_
    rintro b52 W53 hm54 -
    have HM55 := Lib.hid hm54
    clear hm54
    simp only [Act.put, List.setIfInBounds_toArray, List.set_cons_succ, List.set_cons_zero]
    refine wpS_does1 (i := 2) (d := some 14) (rem := [_, _]) (out := [_, _, _]) rfl (by rfl) rfl Try.call8 (heavy_d (rowT elemR _ _) _ _ rowOwnE (Nat.le_of_ble_eq_true rfl)) rfl HM55.out [0] rfl covS_nil rfl rfl ?_
    rintro W57 hm56 -
    rw [hfw.out]
    have HM58 := Lib.hid hm56
    clear hm56
    simp only [Act.put, List.setIfInBounds_toArray, List.set_cons_succ, List.set_cons_zero]
    refine wpS_this [3, 4, 5, 6, 7, 8] rfl (by kernel_rfl) (by simp only [pickL, nthL, List.cons_append, List.nil_append]; rfl) ?_
    repeat (go_big_quiet_step (fail))
    refine wpQuiet_nil ?_
    refine wpS_nil ?_
    refine then_normal ?_
    refine wp_cond_true rfl ?_
    refine wp_seq ?_
    refine wp_region_N [(0, 3), (1, 1)] (by kernel_rfl) ?_
    refine wpS_does0 (i := 0) (d := some 21) (rem := [_, _, _]) (out := [_, _, _]) rfl (by rfl) rfl Try.call9 (lawake_d)  HM58.out [] rfl covS_nil rfl rfl ?_
    rintro W60 hm59 -
    have HM61 := Lib.hid hm59
    clear hm59
    simp only [Act.put, List.setIfInBounds_toArray, List.set_cons_succ, List.set_cons_zero]
    refine wpS_this [1] rfl (by kernel_rfl) (by simp only [pickL, nthL, List.cons_append, List.nil_append]; rfl) ?_
    repeat (go_big_quiet_step (fail))
    refine wpQuiet_nil ?_
    refine wpS_nil ?_
    refine then_normal ?_
    refine wp_ret ?_
    refine then_ret ?_
    refine bodyPost_ret (results_tmp rfl _ _ _) rfl ?_
    exact does_ret (Mem.only (M := [_]) HM61.out [2] rfl) rfl rfl

theorem oneLaw (c0 : Rg × Value) (v1 : Value) (l1 : List Int) (n2 : Int) (W : World) (h0 : SrcE elemI W c0.2 c0.1.p.2.2) (h1 : SrcE elemI W v1 l1) (_ : l1.length * elemI.bytes ≤ 140737488351232) : Gives Try.prog 5 #[rgV c0.1 c0.2, v1, .int .i64 n2] W (.bool true) := (one_d W c0.2 c0.1 h0 n2 v1 l1 h1).givesOld
end Go.Proofs.Ytdfmfcbeebfdhaa
