/- GossipTells. -/
import Derived.Test.YtnkchmafofpimaaGsE
import Derived.Test.YtnkchmafofpimaaGsG
import Derived.Test.YtnkchmafofpimaaGsF
import Derived.Test.YtnkchmafofpimaaGsV
import Derived.Test.YtnkchmafofpimaaSxArr
import Derived.Test.YtnkchmafofpimaaGsQ
namespace Go.Proofs.Ytnkchmafofpimaa
open Go Go.RowKit Go.BigFrame

theorem is4 : IsArr 57 4 := ⟨Try.underlying57, by kernel_rfl⟩
theorem nat_letter (p : Nat) : ∃ x, p = x := ⟨p, rfl⟩
theorem callg_len3 {w : World} {y : CallG} (h : CallGQ w y) : y.r.p.2.2.length = y.n := by
  obtain ⟨⟨_, p, c, e, _⟩, _⟩ := h
  exact (Value.slice.inj e).2.1.symm
theorem tells_ways (a : Rg) (x : Hc) (n : Nat) : (x.n ≤ 100 ∧ hvy 0 [x] = 0 ∧ n ≤ 40 ∧ mayR a = true) ∨ (x.n ≤ 100 ∧ hvy 0 [x] = 0 ∧ n ≤ 40 ∧ mayR a = false) ∨ (x.n ≤ 100 ∧ hvy 0 [x] = 0 ∧ 40 < n) ∨ (¬ x.n ≤ 100 ∧ 0 < hvy 0 [x]) := by
  rcases hvy1m a x with ⟨h1, h2, h3⟩ | ⟨h1, h2, h3⟩ | h
  · by_cases h4 : n ≤ 40
    · exact .inl ⟨h1, h2, h4, h3⟩
    · exact .inr (.inr (.inl ⟨h1, h2, by omega⟩))
  · by_cases h4 : n ≤ 40
    · exact .inr (.inl ⟨h1, h2, h4, h3⟩)
    · exact .inr (.inr (.inl ⟨h1, h2, by omega⟩))
  · exact .inr (.inr (.inr h))
theorem tell_bound {S : Tl} {r : Rg} {n : Nat} {o : List Int} {t : Nat → Int} (h : TellI S r n o t) (hn : n ≤ 40) : (0 ≤ t 1 ∧ t 1 ≤ 14) ∧ (0 ≤ t 2 ∧ t 2 ≤ 14) ∧ 0 ≤ t 3 ∧ t 3 ≤ 14 := by
  have hd : n / 3 ≤ 13 := by omega
  have k : ∀ j, j = 1 ∨ j = 2 ∨ j = 3 → 0 ≤ t j ∧ t j ≤ 14 := fun j hj => by
    have h1 := tell_end h hj
    cases q : qB S r j
    · have := h1.2 q
      omega
    · have := h1.1 q
      omega
  exact ⟨k 1 (.inl rfl), k 2 (.inr (.inl rfl)), k 3 (.inr (.inr rfl))⟩
theorem three {k : Nat} (h : k < 3) : ([1, 2, 3] : List Int)[k]? = some ((k + 1 : Nat) : Int) := by
  rcases (show k = 0 ∨ k = 1 ∨ k = 2 from by omega) with rfl | rfl | rfl <;> rfl
theorem three_t (t : Nat → Int) {k : Nat} (h : k < 3) : ([0, t 1, t 2, t 3] : List Int)[k + 1]? = some (t (k + 1)) := by
  rcases (show k = 0 ∨ k = 1 ∨ k = 2 from by omega) with rfl | rfl | rfl <;> rfl
theorem three_or {k : Nat} (h : k < 3) : k + 1 = 1 ∨ k + 1 = 2 ∨ k + 1 = 3 := by omega
set_option maxHeartbeats 4000000 in
set_option maxRecDepth 100000 in
theorem tells_d (W0 : World) (v : Value) (l : List CallG) (hR' : ∀ W H, (oldT W0).p W H → RowAt elemG W v l) (hQ' : ∀ y ∈ l, CallGQ W0 y) (vr : Value) (r : Rg) (hr' : Reads elemI (oldT W0) vr r.p.2.2) (vd : Value) (dr : List Int) (hD' : ∀ W H, (oldT W0).p W H → RowAt elemD W vd dr) (hu' : ∀ y ∈ dr, 0 ≤ y ∧ y < 18446744073709551616) : Does Try.prog 5 #[v, rgV r vr, vd] [oldT W0] (.bool true) [oldT W0] := by
  intro w H hp
  have HM0 := Lib.hid (mem_refl hp)
  clear hp
  obtain ⟨p, cap, rfl, -⟩ := (HM0.out.row 0 rfl hR').form
  obtain ⟨pd, cd, rfl, -⟩ := (HM0.out.row 0 rfl hD').form
  obtain ⟨pr, cr, rfl⟩ := row_form (Mem.src HM0.out 0 rfl hr')
  have hR := Lib.hid hR'
  clear hR'
  have hQ := Lib.hid hQ'
  clear hQ'
  have hr := Lib.hid hr'
  clear hr'
  have hD := Lib.hid hD'
  clear hD'
  have hu := Lib.hid hu'
  clear hu'
  go_enter Try.func5, Try.ntmps5
  refine wp_seq ?_
  refine wp_region_N [(0, 3), (1, 1)] (by kernel_rfl) ?_
  refine wpS_boxA (i := 0) (dd := 4) rfl (by rfl) rfl rfl HM0.out covS_nil rfl ?_
  rintro b3 W2 hm1 -
  have HM4 := Lib.hid hm1
  clear hm1
  simp only [Act.put, List.setIfInBounds_toArray, List.set_cons_succ, List.set_cons_zero]
  refine wpS_this [1] rfl (by kernel_rfl) (by simp only [pickL, nthL, List.cons_append, List.nil_append]; rfl) ?_
  repeat (go_big_quiet_step (fail))
  refine wpQuiet_nil ?_
  refine wpS_nil ?_
  refine then_normal ?_
  refine wp_seq ?_
  refine wp_seq ?_
  rcases (show litB l = false ∨ (litB l = true ∧ mayR r = true ∧ dr.length ≤ 40 ∧ hvy 0 [(⟨r, pr, r.p.2.2.length, cr⟩ : Hc)] = 0 ∧ r.p.2.2.length ≤ 100) ∨ (litB l = true ∧ mayR r = false ∧ dr.length ≤ 40 ∧ hvy 0 [(⟨r, pr, r.p.2.2.length, cr⟩ : Hc)] = 0 ∧ r.p.2.2.length ≤ 100) ∨ (litB l = true ∧ 40 < dr.length ∧ hvy 0 [(⟨r, pr, r.p.2.2.length, cr⟩ : Hc)] = 0 ∧ r.p.2.2.length ≤ 100) ∨ (litB l = true ∧ 0 < hvy 0 [(⟨r, pr, r.p.2.2.length, cr⟩ : Hc)]) from by
      rcases tells_ways r ⟨r, pr, r.p.2.2.length, cr⟩ dr.length with ⟨h1, h2, h3, h4⟩ | ⟨h1, h2, h3, h4⟩ | ⟨h1, h2, h3⟩ | ⟨h1, h2⟩ <;> cases litB l <;> simp_all) with hl' | ⟨hl', hmy, h40, hfw', hw⟩ | ⟨hl', hmy, h40, hfw', hw⟩ | ⟨hl', h40, hfw', hw⟩ | ⟨hl', hfw'⟩
  · have hl := Lib.hid hl'
    clear hl'
    refine wp_region_N [(0, 1), (1, 3), (2, 1), (3, 1), (4, 1), (5, 3), (6, 3), (7, 1), (8, 1), (9, 1), (10, 1), (11, 1), (12, 1), (13, 1), (14, 1), (15, 1), (16, 3), (17, 1), (18, 1)] (by kernel_rfl) ?_
    refine wpS_this [0] rfl (by kernel_rfl) (by simp only [pickL, nthL, List.cons_append, List.nil_append]; rfl) ?_
    repeat (go_big_quiet_step (fail))
    refine wpQuiet_nil ?_
    refine wpS_does1 (i := 1) (d := some 25) (rem := [_]) (out := [_, _]) rfl (by rfl) rfl Try.call8 (light_d (oldT W0) _ l hR.out) rfl HM4.out [1] rfl covS_nil rfl rfl ?_
    rintro W6 hm5 -
    rw [hl.out]
    have HM7 := Lib.hid hm5
    clear hm5
    simp only [Act.put, List.setIfInBounds_toArray, List.set_cons_succ, List.set_cons_zero]
    refine wpS_this [2, 3] rfl (by kernel_rfl) (by simp only [pickL, nthL, List.cons_append, List.nil_append]; rfl) ?_
    repeat (go_big_quiet_step (fail))
    refine wpQuiet_nil ?_
    refine wpS_skip (i := 4) (d := some 28) rfl (by rfl) rfl ?_
    simp only [Act.put, List.setIfInBounds_toArray, List.set_cons_succ, List.set_cons_zero]
    refine wpS_skip (i := 5) (d := some 29) rfl (by rfl) rfl ?_
    simp only [Act.put, List.setIfInBounds_toArray, List.set_cons_succ, List.set_cons_zero]
    refine wpS_skip (i := 6) (d := some 30) rfl (by rfl) rfl ?_
    simp only [Act.put, List.setIfInBounds_toArray, List.set_cons_succ, List.set_cons_zero]
    refine wpS_this [7, 8, 9, 10, 11, 12, 13, 14] rfl (by kernel_rfl) (by simp only [pickL, nthL, List.cons_append, List.nil_append]; rfl) ?_
    repeat (go_big_quiet_step (fail))
    refine wpQuiet_nil ?_
    refine wpS_skip (i := 15) (d := some 39) rfl (by rfl) rfl ?_
    simp only [Act.put, List.setIfInBounds_toArray, List.set_cons_succ, List.set_cons_zero]
    refine wpS_skip (i := 16) (d := some 40) rfl (by rfl) rfl ?_
    simp only [Act.put, List.setIfInBounds_toArray, List.set_cons_succ, List.set_cons_zero]
    refine wpS_this [17, 18] rfl (by kernel_rfl) (by simp only [pickL, nthL, List.cons_append, List.nil_append]; rfl) ?_
    repeat (go_big_quiet_step (fail))
    refine wpQuiet_nil ?_
    refine wpS_nil ?_
    refine then_normal ?_
    refine wp_cond_true rfl ?_
    refine wp_seq ?_
    refine wp_region_N [(0, 3), (1, 1)] (by kernel_rfl) ?_
    refine wpS_does0 (i := 0) (d := some 43) (rem := [_, _]) (out := [_, _]) rfl (by rfl) rfl Try.call9 (awake_d)  HM7.out [] rfl covS_nil rfl rfl ?_
    rintro W9 hm8 -
    have HM10 := Lib.hid hm8
    clear hm8
    simp only [Act.put, List.setIfInBounds_toArray, List.set_cons_succ, List.set_cons_zero]
    refine wpS_this [1] rfl (by kernel_rfl) (by simp only [pickL, nthL, List.cons_append, List.nil_append]; rfl) ?_
    repeat (go_big_quiet_step (fail))
    refine wpQuiet_nil ?_
    refine wpS_nil ?_
    refine then_normal ?_
    refine wp_ret ?_
    refine then_ret ?_
    refine bodyPost_ret (results_tmp rfl _ _ _) rfl ?_
    exact does_ret (Mem.only (M := [_]) HM10.out [0] rfl) rfl rfl
  · have hlit := Lib.hid (lit_of hl')
    have hl := Lib.hid hl'
    clear hl'
    have hl60 : l.length ≤ 60 := hlit.out.1
    have hfw : Hid (hvy 0 [(⟨r, pr, r.p.2.2.length, cr⟩ : Hc)] = 0) := Lib.hid hfw'
    clear hfw'
    have lr : Hid (r.p.2.2.length ≤ 1000) := Lib.hid (by have h5 : r.p.2.2.length ≤ 100 := hw; omega)
    clear hw
    have g40 : decide ((40 : Int) < ((dr.length : Nat) : Int)) = false := decide_eq_false (by omega)
    have g40' : decide (40 < dr.length) = false := decide_eq_false (by omega)
    have hmy2 := Lib.hid hmy
    clear hmy
    refine wp_region_N [(0, 1), (1, 3), (2, 1), (3, 1), (4, 1), (5, 3), (6, 3), (7, 1), (8, 1), (9, 1), (10, 1), (11, 1), (12, 1), (13, 1), (14, 1), (15, 1), (16, 3), (17, 1), (18, 1)] (by kernel_rfl) ?_
    refine wpS_this [0] rfl (by kernel_rfl) (by simp only [pickL, nthL, List.cons_append, List.nil_append]; rfl) ?_
    repeat (go_big_quiet_step (fail))
    refine wpQuiet_nil ?_
    refine wpS_does1 (i := 1) (d := some 25) (rem := [_]) (out := [_, _]) rfl (by rfl) rfl Try.call8 (light_d (oldT W0) _ l hR.out) rfl HM4.out [1] rfl covS_nil rfl rfl ?_
    rintro W12 hm11 -
    rw [hl.out]
    have HM13 := Lib.hid hm11
    clear hm11
    simp only [Act.put, List.setIfInBounds_toArray, List.set_cons_succ, List.set_cons_zero]
    refine wpS_this [2, 3] rfl (by kernel_rfl) (by simp only [pickL, nthL, List.cons_append, List.nil_append]; rfl) ?_
    repeat (go_big_quiet_step (fail))
    refine wpQuiet_nil ?_
    refine wpS_loadA (i := 4) (d := some 28) (cells := rgC (r) (.slice pr r.p.2.2.length cr)) rfl (by rfl) rfl rfl (HM13.out.sub 1 rfl (fun k u h => by rw [Nat.zero_add]; exact h)) Try.underlying37 rfl (by kernel_rfl) rfl ?_
    simp only [Act.put, List.setIfInBounds_toArray, List.set_cons_succ, List.set_cons_zero]
    refine wpS_buildN elemR (i := 5) (dd := 29) (n := 1) (xs := [⟨r, pr, r.p.2.2.length, cr⟩]) (cs := (rgC r (.slice pr r.p.2.2.length cr) ++ []).toArray) rfl (by rfl) (fun _ => by kernel_rfl) rfl rfl HM13.out covS_nil rfl ?_
    rintro b16 W17 hm18 -
    have HM19 := Lib.hid hm18
    clear hm18
    simp only [Act.put, List.setIfInBounds_toArray, List.set_cons_succ, List.set_cons_zero]
    refine wpS_does1 (i := 6) (d := some 30) (rem := [_, _]) (out := [_, _, _]) rfl (by rfl) rfl Try.call19 (heavy_d (rowT elemR _ _) _ _ rowOwnE (Nat.le_of_ble_eq_true rfl)) rfl HM19.out [0] rfl covS_nil rfl rfl ?_
    rintro W21 hm20 -
    rw [hfw.out]
    have HM22 := Lib.hid hm20
    clear hm20
    simp only [Act.put, List.setIfInBounds_toArray, List.set_cons_succ, List.set_cons_zero]
    refine wpS_this [7, 8, 9, 10, 11, 12, 13, 14] rfl (by kernel_rfl) (by simp only [pickL, nthL, List.cons_append, List.nil_append]; rfl) ?_
    repeat (go_big_quiet_step (fail))
    refine wpQuiet_nil ?_
    refine wpS_loadA (i := 15) (d := some 39) (cells := rgC (r) (.slice pr r.p.2.2.length cr)) rfl (by rfl) rfl rfl (HM22.out.sub 2 rfl (fun k u h => by rw [Nat.zero_add]; exact h)) Try.underlying37 rfl (by kernel_rfl) rfl ?_
    simp only [Act.put, List.setIfInBounds_toArray, List.set_cons_succ, List.set_cons_zero]
    refine wpS_does1 (i := 16) (d := some 40) (rem := [_, _]) (out := [_, _, _]) rfl (by rfl) rfl Try.call20 (gmay_d (oldT W0) _ r hr.out lr.out) rfl HM22.out [1] rfl covS_nil rfl rfl ?_
    rintro W24 hm23 -
    rw [hmy2.out]
    have HM25 := Lib.hid hm23
    clear hm23
    simp only [Act.put, List.setIfInBounds_toArray, List.set_cons_succ, List.set_cons_zero]
    refine wpS_this [17, 18] rfl (by kernel_rfl) (by simp only [pickL, nthL, List.cons_append, List.nil_append]; rfl) ?_
    repeat (go_big_quiet_step (fail))
    refine wpQuiet_nil ?_
    refine wpS_nil ?_
    refine then_normal ?_
    refine wp_cond_false rfl ?_
    refine wp_skip ?_
    refine then_normal ?_
    refine wp_seq ?_
    refine wp_region_N [(0, 3), (1, 1)] (by kernel_rfl) ?_
    refine wpS_doesU1 (i := 0) (d := some 44) (rem := [_, _]) rfl (by rfl) rfl Try.call10 (gnew_d 0 rfl (oldT W0)) rfl HM25.out [0] rfl covS_nil (fun _ => rfl) rfl ?_
    rintro u28 W27 hm26 -
    obtain ⟨d, rfl, hm26b⟩ := Mem.someGt hm26
    clear hm26
    obtain ⟨z0, l0, hz0', hm26q⟩ := Mem.gt hm26b
    clear hm26b
    have hz0 := Lib.hid hz0'
    clear hz0'
    have HM29 := Lib.hid hm26q
    clear hm26q
    simp only [Act.put, List.setIfInBounds_toArray, List.set_cons_succ, List.set_cons_zero]
    refine wpS_this [1] rfl (by kernel_rfl) (by simp only [pickL, nthL, List.cons_append, List.nil_append]; rfl) ?_
    repeat (go_big_quiet_step (fail))
    refine wpQuiet_nil ?_
    refine wpS_nil ?_
    refine then_normal ?_
    refine wp_seq ?_
    refine wp_seq ?_
    refine wp_region_N [(0, 1), (1, 1), (2, 1)] (by kernel_rfl) ?_
    refine wpS_this [0, 1, 2] rfl (by kernel_rfl) (by simp only [pickL, nthL, List.cons_append, List.nil_append]; rfl) ?_
    repeat (go_big_quiet_step (fail))
    refine wpQuiet_nil ?_
    refine wpS_nil ?_
    refine then_normal ?_
    refine wp_block ?_
    refine wp_loop_F [6, 9, 10, 11, 12, 13, 47, 48, 49, 50, 51, 52, 53, 54, 55, 56, 57, 58, 59, 60, 61, 62, 63, 64, 65, 66, 67, 68, 69, 70, 71, 72, 73, 74, 75, 76, 77, 78, 79, 80, 81, 82, 83, 84, 85, 86, 87, 88, 89, 90, 91, 92, 93, 94, 95, 96, 97] (fun n vs W' => ∃ (k : Nat) (T : Tl) (z : Nat → Value) (R : At), n = l.length - k ∧ vs 47 = .int .i64 (k : Int) ∧ k ≤ l.length ∧ TlZ T ∧ KnowsOf R T.k z ∧ Grown (oldT W0) R ∧ Mem [gtc d T z, boxT b3 (.cells (rgC (r) (.slice pr r.p.2.2.length cr)).toArray 37 (0, 0)), R] H w W') (n0 := l.length) ?_ ?_
    · exact ⟨0, newT 0, z0, listT (oldT W0 :: l0), rfl, rfl, Nat.zero_le _, tlz_new, hz0.out, (Grown.refl _).list _, (Mem.only (M := [_, _, _]) HM29.out [0, 2, 0] rfl)⟩
    rintro n vs W' ⟨k, T, z, R, rfl, e47, hk, hZ, hzT, hg, hm⟩
    simp only [putAll, List.map_cons, List.map_nil, Act.put, List.setIfInBounds_toArray, List.set_cons_succ, List.set_cons_zero]
    rw [e47]
    clear e47
    replace hZ := Lib.hid hZ
    replace hzT := Lib.hid hzT
    replace hg := Lib.hid hg
    have HM30 := Lib.hid hm
    clear hm
    refine wp_seq ?_
    refine wp_region_N [(0, 1)] (by kernel_rfl) ?_
    refine wpS_this [0] rfl (by kernel_rfl) (by simp only [pickL, nthL, List.cons_append, List.nil_append]; rfl) ?_
    repeat (go_big_quiet_step (fail))
    refine wpQuiet_nil ?_
    refine wpS_nil ?_
    refine then_normal ?_
    refine wp_seq ?_
    refine wp_cond_split rfl (fun h31 => ?_) (fun h31 => ?_)
    · have hk1 : k + 1 ≤ l.length := by have : (k : Int) < ((l.length : Nat) : Int) := (by simpa using h31); omega
      clear h31
      obtain ⟨y, hy'⟩ : ∃ y, l[k]? = some y := ⟨_, List.getElem?_eq_getElem (hk1)⟩
      have hy := Lib.hid hy'
      clear hy'
      have hyq := Lib.hid (hQ.out y (List.mem_of_getElem? hy.out))
      have ly : Hid (y.r.p.2.2.length ≤ 1000) := Lib.hid (by have := (hlit.out.2 y (List.mem_of_getElem? hy.out)).1; rw [callg_len3 hyq.out]; omega)
      refine wp_skip ?_
      refine then_normal ?_
      refine wp_seq ?_
      refine wp_block ?_
      refine wp_seq ?_
      refine wp_region_N [(0, 1), (1, 1), (2, 3), (3, 3)] (by kernel_rfl) ?_
      refine wpS_index (E := elemG) (i := 0) (d := some 49) rfl (by rfl) rfl rfl rfl (HM30.out.row 2 rfl (hg.out.row hR.out)) (hy.out) rfl ?_
      intro eb32 eo33 hc34
      simp only [Act.put, List.setIfInBounds_toArray, List.set_cons_succ, List.set_cons_zero]
      refine wpS_loadA (i := 1) (d := some 50) (cells := CallG.enc y) rfl (by rfl) rfl rfl hc34 Try.underlying40 rfl (by kernel_rfl) rfl ?_
      simp only [Act.put, List.setIfInBounds_toArray, List.set_cons_succ, List.set_cons_zero]
      refine wpS_alloc (i := 2) (dd := 9) (z := .agg (default : CallG).enc.toArray) (cs := (default : CallG).enc.toArray) rfl (by rfl) rfl (by kernel_rfl) rfl HM30.out covS_nil rfl ?_
      rintro b37 W36 hm35 -
      have HM38 := Lib.hid hm35
      clear hm35
      simp only [Act.put, List.setIfInBounds_toArray, List.set_cons_succ, List.set_cons_zero]
      refine wpS_storeA (i := 3) (L2 := [_, _, _]) (cs' := CallG.enc y) rfl (by rfl) rfl rfl rfl (by kernel_rfl) (show (CallG.enc y).all Value.oneCell' = true by kernel_rfl) HM38.out 0 rfl rfl (by kernel_rfl) (by kernel_rfl) covS_nil rfl ?_
      rintro W40 hm39 -
      have HM41 := Lib.hid hm39
      clear hm39
      refine wpS_nil ?_
      refine then_normal ?_
      refine wp_seq ?_
      obtain ⟨wr, hwr'⟩ : ∃ x, knowsR T y.frm = x := ⟨_, rfl⟩
      have lwr' := knowsR_len hzT.out y.frm
      rw [hwr'] at lwr'
      have lwr := Lib.hid lwr'
      clear lwr'
      obtain ⟨wb, hwb'⟩ := bool_letter (knowsB T y.frm)
      have hwr := Lib.hid hwr'
      clear hwr'
      have hwb := Lib.hid hwb'
      clear hwb'
      refine wp_region_N [(0, 1), (1, 1), (2, 1), (3, 3), (4, 1), (5, 1), (6, 1), (7, 3), (8, 3), (9, 1)] (by kernel_rfl) ?_
      refine wpS_this [0, 1] rfl (by kernel_rfl) (by simp only [pickL, nthL, List.cons_append, List.nil_append]; rfl) ?_
      repeat (go_big_quiet_step (fail))
      refine wpQuiet_nil ?_
      refine wpS_load1 (i := 2) (d := some 54) (u := .int .i64 y.frm) rfl (by rfl) rfl rfl (HM41.out.sub1 0 rfl rfl) Try.underlying3 rfl rfl ?_
      simp only [Act.put, List.setIfInBounds_toArray, List.set_cons_succ, List.set_cons_zero]
      refine wpS_doesU2 (i := 3) (d := some 55) (rem := [_, _]) rfl (by rfl) rfl Try.call16 (gknows_d d T z R hzT.out y.frm) rfl rfl HM41.out [1, 2] rfl covS_nil (fun _ => rfl) rfl ?_
      rintro u44 W43 hm42 -
      obtain ⟨pw, cw, rfl, hm42q⟩ := Mem.known hwr.out hwb.out hm42
      clear hm42
      have HM45 := Lib.hid hm42q
      clear hm42q
      simp only [Act.put, List.setIfInBounds_toArray, List.set_cons_succ, List.set_cons_zero]
      refine wpS_this [4, 5, 6] rfl (by kernel_rfl) (by simp only [pickL, nthL, List.cons_append, List.nil_append]; rfl) ?_
      repeat (go_big_quiet_step (fail))
      refine wpQuiet_nil ?_
      refine wpS_alloc (i := 7) (dd := 10) (z := rgV noR (.slice none 0 0)) (cs := (rgC noR (.slice none 0 0)).toArray) rfl (by rfl) rfl (by kernel_rfl) rfl HM45.out covS_nil rfl ?_
      rintro b48 W47 hm46 -
      have HM49 := Lib.hid hm46
      clear hm46
      simp only [Act.put, List.setIfInBounds_toArray, List.set_cons_succ, List.set_cons_zero]
      refine wpS_storeA (i := 8) (L2 := [_, _, _, _, _]) (cs' := rgC (wr) (.slice pw wr.p.2.2.length cw)) rfl (by rfl) rfl rfl rfl (by kernel_rfl) (rgC_one _ _ _) HM49.out 0 rfl rfl (by kernel_rfl) (by kernel_rfl) covS_nil rfl ?_
      rintro W51 hm50 -
      have HM52 := Lib.hid hm50
      clear hm50
      refine wpS_this [9] rfl (by kernel_rfl) (by simp only [pickL, nthL, List.cons_append, List.nil_append]; rfl) ?_
      repeat (go_big_quiet_step (fail))
      refine wpQuiet_nil ?_
      refine wpS_nil ?_
      refine then_normal ?_
      refine wp_seq ?_
      have HX' := Mem.toGt (B := R) (l := []) (S := T) (z := z) (KnowsOf.one hzT.out) (Mem.only (M := [_, _, _, _, _, _]) (Mem.toOne (Mem.only (M := [_, _, _, _, _, _]) HM52.out [3, 2, 0, 0, 0, 0] rfl)) [1, 0, 0, 0, 0, 0] rfl)
      have HX := Lib.hid HX'
      clear HX'
      refine wp_region_N [(0, 1), (1, 1), (2, 1), (3, 1), (4, 1), (5, 3)] (by kernel_rfl) ?_
      refine wpS_this [0, 1] rfl (by kernel_rfl) (by simp only [pickL, nthL, List.cons_append, List.nil_append]; rfl) ?_
      repeat (go_big_quiet_step (fail))
      refine wpQuiet_nil ?_
      refine wpS_load1 (i := 2) (d := some 60) (u := .int .i64 y.frm) rfl (by rfl) rfl rfl (HX.out.sub1 3 rfl rfl) Try.underlying3 rfl rfl ?_
      simp only [Act.put, List.setIfInBounds_toArray, List.set_cons_succ, List.set_cons_zero]
      refine wpS_this [3] rfl (by kernel_rfl) (by simp only [pickL, nthL, List.cons_append, List.nil_append]; rfl) ?_
      repeat (go_big_quiet_step (fail))
      refine wpQuiet_nil ?_
      refine wpS_loadA (i := 4) (d := some 62) (cells := rgC y.r (.slice y.p y.n y.c)) rfl (by rfl) rfl rfl (HX.out.sub 3 rfl (fun _ _ h => sub_app [_, _] _ [_, _] h)) Try.underlying37 rfl (by kernel_rfl) rfl ?_
      simp only [Act.put, List.setIfInBounds_toArray, List.set_cons_succ, List.set_cons_zero]
      refine wpS_does3 (i := 5) (d := some 63) (rem := [_, _, _, _]) (out := [_, _, _, _, _]) rfl (by rfl) rfl Try.call14 (gheard_d d T R y.frm _ y.r (hg.out.reads (srcOld hyq.out.1)) ly.out) rfl rfl rfl HX.out [0] rfl covS_nil rfl rfl ?_
      rintro W54 hm53 -
      obtain ⟨z2, l2, hz2', hm53q⟩ := Mem.gt hm53
      clear hm53
      have hz2 := Lib.hid hz2'
      clear hz2'
      have HM55 := Lib.hid hm53q
      clear hm53q
      simp only [Act.put, List.setIfInBounds_toArray, List.set_cons_succ, List.set_cons_zero]
      refine wpS_nil ?_
      refine then_normal ?_
      refine wp_seq ?_
      obtain ⟨T2, hT2'⟩ : ∃ x, heardT T y.frm y.r = x := ⟨_, rfl⟩
      have hZ2' := hZ.out.heard y.frm y.r
      have hrise' := @tells_rise T y.frm y.r
      have hhas' := @tells_has T hZ.out y.frm y.r
      rw [hT2'] at hZ2' hrise' hhas' hz2 HM55
      clear hT2'
      rw [hwb.out, hwr.out] at hrise'
      obtain ⟨nr, hnr'⟩ : ∃ x, knowsR T2 y.frm = x := ⟨_, rfl⟩
      have lnr' := knowsR_len hz2.out y.frm
      rw [hnr'] at lnr'
      have lnr := Lib.hid lnr'
      clear lnr'
      obtain ⟨nb, hnb'⟩ := bool_letter (knowsB T2 y.frm)
      rw [hnb', hnr'] at hrise' hhas'
      have hZ2 := Lib.hid hZ2'
      clear hZ2'
      have hrise := Lib.hid hrise'
      clear hrise'
      have hhas := Lib.hid hhas'
      clear hhas'
      have hnr := Lib.hid hnr'
      clear hnr'
      have hnb := Lib.hid hnb'
      clear hnb'
      refine wp_region_N [(0, 1), (1, 1), (2, 1), (3, 3), (4, 1), (5, 1), (6, 1), (7, 3), (8, 3), (9, 1)] (by kernel_rfl) ?_
      refine wpS_this [0, 1] rfl (by kernel_rfl) (by simp only [pickL, nthL, List.cons_append, List.nil_append]; rfl) ?_
      repeat (go_big_quiet_step (fail))
      refine wpQuiet_nil ?_
      refine wpS_load1 (i := 2) (d := some 67) (u := .int .i64 y.frm) rfl (by rfl) rfl rfl (HM55.out.sub1 4 rfl rfl) Try.underlying3 rfl rfl ?_
      simp only [Act.put, List.setIfInBounds_toArray, List.set_cons_succ, List.set_cons_zero]
      refine wpS_doesU2 (i := 3) (d := some 68) (rem := [_, _, _, _]) rfl (by rfl) rfl Try.call16 (gknows_d d T2 z2 (listT (R :: l2)) hz2.out y.frm) rfl rfl HM55.out [0, 0] rfl covS_nil (fun _ => rfl) rfl ?_
      rintro u58 W57 hm56 -
      obtain ⟨pn, cn, rfl, hm56q⟩ := Mem.known hnr.out hnb.out hm56
      clear hm56
      have HM59 := Lib.hid hm56q
      clear hm56q
      simp only [Act.put, List.setIfInBounds_toArray, List.set_cons_succ, List.set_cons_zero]
      refine wpS_this [4, 5, 6] rfl (by kernel_rfl) (by simp only [pickL, nthL, List.cons_append, List.nil_append]; rfl) ?_
      repeat (go_big_quiet_step (fail))
      refine wpQuiet_nil ?_
      refine wpS_alloc (i := 7) (dd := 12) (z := rgV noR (.slice none 0 0)) (cs := (rgC noR (.slice none 0 0)).toArray) rfl (by rfl) rfl (by kernel_rfl) rfl HM59.out covS_nil rfl ?_
      rintro b62 W61 hm60 -
      have HM63 := Lib.hid hm60
      clear hm60
      simp only [Act.put, List.setIfInBounds_toArray, List.set_cons_succ, List.set_cons_zero]
      refine wpS_storeA (i := 8) (L2 := [_, _, _, _, _, _, _]) (cs' := rgC (nr) (.slice pn nr.p.2.2.length cn)) rfl (by rfl) rfl rfl rfl (by kernel_rfl) (rgC_one _ _ _) HM63.out 0 rfl rfl (by kernel_rfl) (by kernel_rfl) covS_nil rfl ?_
      rintro W65 hm64 -
      have HM66 := Lib.hid hm64
      clear hm64
      refine wpS_this [9] rfl (by kernel_rfl) (by simp only [pickL, nthL, List.cons_append, List.nil_append]; rfl) ?_
      repeat (go_big_quiet_step (fail))
      refine wpQuiet_nil ?_
      refine wpS_nil ?_
      refine then_normal ?_
      refine wp_seq ?_
      rcases (show (wb = false ∧ nb = false) ∨ (wb = false ∧ nb = true ∧ mayR y.r = false) ∨ (wb = false ∧ nb = true ∧ mayR y.r = true) ∨ (wb = true ∧ nb = true ∧ mayR y.r = false) ∨ (wb = true ∧ nb = true ∧ mayR y.r = true) from by
          have h1 : wb = true → nb = true := fun q => (hrise.out q).1
          cases wb <;> cases nb <;> cases mayR y.r <;> simp_all) with ⟨rfl, rfl⟩ | ⟨rfl, rfl, hmc'⟩ | ⟨rfl, rfl, hmc'⟩ | ⟨rfl, rfl, hmc'⟩ | ⟨rfl, rfl, hmc'⟩
      · skip
        refine wp_region_N [(0, 1), (1, 1), (2, 1), (3, 1), (4, 1), (5, 1), (6, 1), (7, 3), (8, 1), (9, 1), (10, 1), (11, 1), (12, 1), (13, 1), (14, 1), (15, 1), (16, 3), (17, 1), (18, 1), (19, 1), (20, 1), (21, 1), (22, 3), (23, 1), (24, 1), (25, 1)] (by kernel_rfl) ?_
        refine wpS_this [0, 1, 2, 3, 4] rfl (by kernel_rfl) (by simp only [pickL, nthL, List.cons_append, List.nil_append]; rfl) ?_
        repeat (go_big_quiet_step (fail))
        refine wpQuiet_nil ?_
        refine wpS_skip (i := 5) (d := some 76) rfl (by rfl) rfl ?_
        simp only [Act.put, List.setIfInBounds_toArray, List.set_cons_succ, List.set_cons_zero]
        refine wpS_skip (i := 6) (d := some 77) rfl (by rfl) rfl ?_
        simp only [Act.put, List.setIfInBounds_toArray, List.set_cons_succ, List.set_cons_zero]
        refine wpS_skip (i := 7) (d := some 78) rfl (by rfl) rfl ?_
        simp only [Act.put, List.setIfInBounds_toArray, List.set_cons_succ, List.set_cons_zero]
        refine wpS_this [8, 9, 10, 11, 12, 13, 14] rfl (by kernel_rfl) (by simp only [pickL, nthL, List.cons_append, List.nil_append]; rfl) ?_
        repeat (go_big_quiet_step (fail))
        refine wpQuiet_nil ?_
        refine wpS_skip (i := 15) (d := some 86) rfl (by rfl) rfl ?_
        simp only [Act.put, List.setIfInBounds_toArray, List.set_cons_succ, List.set_cons_zero]
        refine wpS_skip (i := 16) (d := some 87) rfl (by rfl) rfl ?_
        simp only [Act.put, List.setIfInBounds_toArray, List.set_cons_succ, List.set_cons_zero]
        refine wpS_this [17, 18, 19] rfl (by kernel_rfl) (by simp only [pickL, nthL, List.cons_append, List.nil_append]; rfl) ?_
        repeat (go_big_quiet_step (fail))
        refine wpQuiet_nil ?_
        refine wpS_skip (i := 20) (d := some 91) rfl (by rfl) rfl ?_
        simp only [Act.put, List.setIfInBounds_toArray, List.set_cons_succ, List.set_cons_zero]
        refine wpS_skip (i := 21) (d := some 92) rfl (by rfl) rfl ?_
        simp only [Act.put, List.setIfInBounds_toArray, List.set_cons_succ, List.set_cons_zero]
        refine wpS_skip (i := 22) (d := some 93) rfl (by rfl) rfl ?_
        simp only [Act.put, List.setIfInBounds_toArray, List.set_cons_succ, List.set_cons_zero]
        refine wpS_this [23, 24, 25] rfl (by kernel_rfl) (by simp only [pickL, nthL, List.cons_append, List.nil_append]; rfl) ?_
        repeat (go_big_quiet_step (fail))
        refine wpQuiet_nil ?_
        refine wpS_nil ?_
        refine then_normal ?_
        refine wp_cond_false rfl ?_
        refine wp_skip ?_
        refine block_normal ?_
        refine then_normal ?_
        refine wp_region_N [(0, 1), (1, 1)] (by kernel_rfl) ?_
        refine wpS_this [0, 1] rfl (by kernel_rfl) (by simp only [pickL, nthL, List.cons_append, List.nil_append]; rfl) ?_
        repeat (go_big_quiet_step (fail))
        refine wpQuiet_nil ?_
        refine wpS_nil ?_
        refine then_normal ?_
        refine ⟨by kernel_rfl, ?_⟩
        exact ⟨l.length - (k + 1), by omega, k + 1, T2, z2, listT (R :: l2), rfl, rfl, hk1, hZ2.out, hz2.out, hg.out.list l2, (Mem.only (M := [_, _, _]) HM66.out [2, 6, 2] rfl)⟩
      · have hmc := Lib.hid hmc'
        clear hmc'
        refine wp_region_N [(0, 1), (1, 1), (2, 1), (3, 1), (4, 1), (5, 1), (6, 1), (7, 3), (8, 1), (9, 1), (10, 1), (11, 1), (12, 1), (13, 1), (14, 1), (15, 1), (16, 3), (17, 1), (18, 1), (19, 1), (20, 1), (21, 1), (22, 3), (23, 1), (24, 1), (25, 1)] (by kernel_rfl) ?_
        refine wpS_this [0, 1, 2, 3, 4] rfl (by kernel_rfl) (by simp only [pickL, nthL, List.cons_append, List.nil_append]; rfl) ?_
        repeat (go_big_quiet_step (fail))
        refine wpQuiet_nil ?_
        refine wpS_skip (i := 5) (d := some 76) rfl (by rfl) rfl ?_
        simp only [Act.put, List.setIfInBounds_toArray, List.set_cons_succ, List.set_cons_zero]
        refine wpS_skip (i := 6) (d := some 77) rfl (by rfl) rfl ?_
        simp only [Act.put, List.setIfInBounds_toArray, List.set_cons_succ, List.set_cons_zero]
        refine wpS_skip (i := 7) (d := some 78) rfl (by rfl) rfl ?_
        simp only [Act.put, List.setIfInBounds_toArray, List.set_cons_succ, List.set_cons_zero]
        refine wpS_this [8, 9, 10, 11, 12, 13, 14] rfl (by kernel_rfl) (by simp only [pickL, nthL, List.cons_append, List.nil_append]; rfl) ?_
        repeat (go_big_quiet_step (fail))
        refine wpQuiet_nil ?_
        refine wpS_loadA (i := 15) (d := some 86) (cells := rgC y.r (.slice y.p y.n y.c)) rfl (by rfl) rfl rfl (HM66.out.sub 6 rfl (fun _ _ h => sub_app [_, _] _ [_, _] h)) Try.underlying37 rfl (by kernel_rfl) rfl ?_
        simp only [Act.put, List.setIfInBounds_toArray, List.set_cons_succ, List.set_cons_zero]
        refine wpS_does1 (i := 16) (d := some 87) (rem := [_, _, _, _, _, _, _]) (out := [_, _, _, _, _, _, _, _]) rfl (by rfl) rfl Try.call20 (gmay_d (listT (R :: l2)) _ y.r ((hg.out.list l2).reads (srcOld hyq.out.1)) ly.out) rfl HM66.out [3] rfl covS_nil rfl rfl ?_
        rintro W68 hm67 -
        rw [hmc.out]
        have HM69 := Lib.hid hm67
        clear hm67
        simp only [Act.put, List.setIfInBounds_toArray, List.set_cons_succ, List.set_cons_zero]
        refine wpS_this [17, 18, 19] rfl (by kernel_rfl) (by simp only [pickL, nthL, List.cons_append, List.nil_append]; rfl) ?_
        repeat (go_big_quiet_step (fail))
        refine wpQuiet_nil ?_
        refine wpS_skip (i := 20) (d := some 91) rfl (by rfl) rfl ?_
        simp only [Act.put, List.setIfInBounds_toArray, List.set_cons_succ, List.set_cons_zero]
        refine wpS_skip (i := 21) (d := some 92) rfl (by rfl) rfl ?_
        simp only [Act.put, List.setIfInBounds_toArray, List.set_cons_succ, List.set_cons_zero]
        refine wpS_skip (i := 22) (d := some 93) rfl (by rfl) rfl ?_
        simp only [Act.put, List.setIfInBounds_toArray, List.set_cons_succ, List.set_cons_zero]
        refine wpS_this [23, 24, 25] rfl (by kernel_rfl) (by simp only [pickL, nthL, List.cons_append, List.nil_append]; rfl) ?_
        repeat (go_big_quiet_step (fail))
        refine wpQuiet_nil ?_
        refine wpS_nil ?_
        refine then_normal ?_
        refine wp_cond_false rfl ?_
        refine wp_skip ?_
        refine block_normal ?_
        refine then_normal ?_
        refine wp_region_N [(0, 1), (1, 1)] (by kernel_rfl) ?_
        refine wpS_this [0, 1] rfl (by kernel_rfl) (by simp only [pickL, nthL, List.cons_append, List.nil_append]; rfl) ?_
        repeat (go_big_quiet_step (fail))
        refine wpQuiet_nil ?_
        refine wpS_nil ?_
        refine then_normal ?_
        refine ⟨by kernel_rfl, ?_⟩
        exact ⟨l.length - (k + 1), by omega, k + 1, T2, z2, listT (R :: l2), rfl, rfl, hk1, hZ2.out, hz2.out, hg.out.list l2, (Mem.only (M := [_, _, _]) HM69.out [3, 6, 0] rfl)⟩
      · have hb2 := Lib.hid (hhas.out rfl hmc')
        have hmc := Lib.hid hmc'
        clear hmc'
        refine wp_region_N [(0, 1), (1, 1), (2, 1), (3, 1), (4, 1), (5, 1), (6, 1), (7, 3), (8, 1), (9, 1), (10, 1), (11, 1), (12, 1), (13, 1), (14, 1), (15, 1), (16, 3), (17, 1), (18, 1), (19, 1), (20, 1), (21, 1), (22, 3), (23, 1), (24, 1), (25, 1)] (by kernel_rfl) ?_
        refine wpS_this [0, 1, 2, 3, 4] rfl (by kernel_rfl) (by simp only [pickL, nthL, List.cons_append, List.nil_append]; rfl) ?_
        repeat (go_big_quiet_step (fail))
        refine wpQuiet_nil ?_
        refine wpS_skip (i := 5) (d := some 76) rfl (by rfl) rfl ?_
        simp only [Act.put, List.setIfInBounds_toArray, List.set_cons_succ, List.set_cons_zero]
        refine wpS_skip (i := 6) (d := some 77) rfl (by rfl) rfl ?_
        simp only [Act.put, List.setIfInBounds_toArray, List.set_cons_succ, List.set_cons_zero]
        refine wpS_skip (i := 7) (d := some 78) rfl (by rfl) rfl ?_
        simp only [Act.put, List.setIfInBounds_toArray, List.set_cons_succ, List.set_cons_zero]
        refine wpS_this [8, 9, 10, 11, 12, 13, 14] rfl (by kernel_rfl) (by simp only [pickL, nthL, List.cons_append, List.nil_append]; rfl) ?_
        repeat (go_big_quiet_step (fail))
        refine wpQuiet_nil ?_
        refine wpS_loadA (i := 15) (d := some 86) (cells := rgC y.r (.slice y.p y.n y.c)) rfl (by rfl) rfl rfl (HM66.out.sub 6 rfl (fun _ _ h => sub_app [_, _] _ [_, _] h)) Try.underlying37 rfl (by kernel_rfl) rfl ?_
        simp only [Act.put, List.setIfInBounds_toArray, List.set_cons_succ, List.set_cons_zero]
        refine wpS_does1 (i := 16) (d := some 87) (rem := [_, _, _, _, _, _, _]) (out := [_, _, _, _, _, _, _, _]) rfl (by rfl) rfl Try.call20 (gmay_d (listT (R :: l2)) _ y.r ((hg.out.list l2).reads (srcOld hyq.out.1)) ly.out) rfl HM66.out [3] rfl covS_nil rfl rfl ?_
        rintro W71 hm70 -
        rw [hmc.out]
        have HM72 := Lib.hid hm70
        clear hm70
        simp only [Act.put, List.setIfInBounds_toArray, List.set_cons_succ, List.set_cons_zero]
        refine wpS_this [17, 18, 19] rfl (by kernel_rfl) (by simp only [pickL, nthL, List.cons_append, List.nil_append]; rfl) ?_
        repeat (go_big_quiet_step (fail))
        refine wpQuiet_nil ?_
        refine wpS_loadA (i := 20) (d := some 91) (cells := rgC y.r (.slice y.p y.n y.c)) rfl (by rfl) rfl rfl (HM72.out.sub 6 rfl (fun _ _ h => sub_app [_, _] _ [_, _] h)) Try.underlying37 rfl (by kernel_rfl) rfl ?_
        simp only [Act.put, List.setIfInBounds_toArray, List.set_cons_succ, List.set_cons_zero]
        refine wpS_loadA (i := 21) (d := some 92) (cells := rgC (nr) (.slice pn nr.p.2.2.length cn)) rfl (by rfl) rfl rfl (HM72.out.sub 1 rfl (fun k u h => by rw [Nat.zero_add]; exact h)) Try.underlying37 rfl (by kernel_rfl) rfl ?_
        simp only [Act.put, List.setIfInBounds_toArray, List.set_cons_succ, List.set_cons_zero]
        refine wpS_does2 (i := 22) (d := some 93) (rem := [_, _, _, _, _, _]) (out := [_, _, _, _, _, _, _, _]) rfl (by rfl) rfl Try.call21 (Does.ofList (gbelow_d (listT [_, _]) _ y.r (srcL 0 rfl ((hg.out.list l2).reads (srcOld hyq.out.1))) ly.out _ nr (srcL 1 rfl rowT_reads) lnr.out)) rfl rfl HM72.out [0, 1] rfl covS_nil rfl rfl ?_
        rintro W74 hm73 -
        rw [hb2.out]
        have HM75 := Lib.hid hm73
        clear hm73
        simp only [Act.put, List.setIfInBounds_toArray, List.set_cons_succ, List.set_cons_zero]
        refine wpS_this [23, 24, 25] rfl (by kernel_rfl) (by simp only [pickL, nthL, List.cons_append, List.nil_append]; rfl) ?_
        repeat (go_big_quiet_step (fail))
        refine wpQuiet_nil ?_
        refine wpS_nil ?_
        refine then_normal ?_
        refine wp_cond_false rfl ?_
        refine wp_skip ?_
        refine block_normal ?_
        refine then_normal ?_
        refine wp_region_N [(0, 1), (1, 1)] (by kernel_rfl) ?_
        refine wpS_this [0, 1] rfl (by kernel_rfl) (by simp only [pickL, nthL, List.cons_append, List.nil_append]; rfl) ?_
        repeat (go_big_quiet_step (fail))
        refine wpQuiet_nil ?_
        refine wpS_nil ?_
        refine then_normal ?_
        refine ⟨by kernel_rfl, ?_⟩
        exact ⟨l.length - (k + 1), by omega, k + 1, T2, z2, listT (R :: l2), rfl, rfl, hk1, hZ2.out, hz2.out, hg.out.list l2, (Mem.only (M := [_, _, _]) HM75.out [3, 6, 0] rfl)⟩
      · have hb1 := Lib.hid ((hrise.out rfl).2)
        have hmc := Lib.hid hmc'
        clear hmc'
        refine wp_region_N [(0, 1), (1, 1), (2, 1), (3, 1), (4, 1), (5, 1), (6, 1), (7, 3), (8, 1), (9, 1), (10, 1), (11, 1), (12, 1), (13, 1), (14, 1), (15, 1), (16, 3), (17, 1), (18, 1), (19, 1), (20, 1), (21, 1), (22, 3), (23, 1), (24, 1), (25, 1)] (by kernel_rfl) ?_
        refine wpS_this [0, 1, 2, 3, 4] rfl (by kernel_rfl) (by simp only [pickL, nthL, List.cons_append, List.nil_append]; rfl) ?_
        repeat (go_big_quiet_step (fail))
        refine wpQuiet_nil ?_
        refine wpS_loadA (i := 5) (d := some 76) (cells := rgC (wr) (.slice pw wr.p.2.2.length cw)) rfl (by rfl) rfl rfl (HM66.out.sub 4 rfl (fun k u h => by rw [Nat.zero_add]; exact h)) Try.underlying37 rfl (by kernel_rfl) rfl ?_
        simp only [Act.put, List.setIfInBounds_toArray, List.set_cons_succ, List.set_cons_zero]
        refine wpS_loadA (i := 6) (d := some 77) (cells := rgC (nr) (.slice pn nr.p.2.2.length cn)) rfl (by rfl) rfl rfl (HM66.out.sub 0 rfl (fun k u h => by rw [Nat.zero_add]; exact h)) Try.underlying37 rfl (by kernel_rfl) rfl ?_
        simp only [Act.put, List.setIfInBounds_toArray, List.set_cons_succ, List.set_cons_zero]
        refine wpS_does2 (i := 7) (d := some 78) (rem := [_, _, _, _, _, _]) (out := [_, _, _, _, _, _, _, _]) rfl (by rfl) rfl Try.call21 (Does.ofList (gbelow_d (listT [_, _]) _ wr (srcL 0 rfl rowT_reads) lwr.out _ nr (srcL 1 rfl rowT_reads) lnr.out)) rfl rfl HM66.out [5, 1] rfl covS_nil rfl rfl ?_
        rintro W77 hm76 -
        rw [hb1.out]
        have HM78 := Lib.hid hm76
        clear hm76
        simp only [Act.put, List.setIfInBounds_toArray, List.set_cons_succ, List.set_cons_zero]
        refine wpS_this [8, 9, 10, 11, 12, 13, 14] rfl (by kernel_rfl) (by simp only [pickL, nthL, List.cons_append, List.nil_append]; rfl) ?_
        repeat (go_big_quiet_step (fail))
        refine wpQuiet_nil ?_
        refine wpS_loadA (i := 15) (d := some 86) (cells := rgC y.r (.slice y.p y.n y.c)) rfl (by rfl) rfl rfl (HM78.out.sub 6 rfl (fun _ _ h => sub_app [_, _] _ [_, _] h)) Try.underlying37 rfl (by kernel_rfl) rfl ?_
        simp only [Act.put, List.setIfInBounds_toArray, List.set_cons_succ, List.set_cons_zero]
        refine wpS_does1 (i := 16) (d := some 87) (rem := [_, _, _, _, _, _, _]) (out := [_, _, _, _, _, _, _, _]) rfl (by rfl) rfl Try.call20 (gmay_d (listT (R :: l2)) _ y.r ((hg.out.list l2).reads (srcOld hyq.out.1)) ly.out) rfl HM78.out [4] rfl covS_nil rfl rfl ?_
        rintro W80 hm79 -
        rw [hmc.out]
        have HM81 := Lib.hid hm79
        clear hm79
        simp only [Act.put, List.setIfInBounds_toArray, List.set_cons_succ, List.set_cons_zero]
        refine wpS_this [17, 18, 19] rfl (by kernel_rfl) (by simp only [pickL, nthL, List.cons_append, List.nil_append]; rfl) ?_
        repeat (go_big_quiet_step (fail))
        refine wpQuiet_nil ?_
        refine wpS_skip (i := 20) (d := some 91) rfl (by rfl) rfl ?_
        simp only [Act.put, List.setIfInBounds_toArray, List.set_cons_succ, List.set_cons_zero]
        refine wpS_skip (i := 21) (d := some 92) rfl (by rfl) rfl ?_
        simp only [Act.put, List.setIfInBounds_toArray, List.set_cons_succ, List.set_cons_zero]
        refine wpS_skip (i := 22) (d := some 93) rfl (by rfl) rfl ?_
        simp only [Act.put, List.setIfInBounds_toArray, List.set_cons_succ, List.set_cons_zero]
        refine wpS_this [23, 24, 25] rfl (by kernel_rfl) (by simp only [pickL, nthL, List.cons_append, List.nil_append]; rfl) ?_
        repeat (go_big_quiet_step (fail))
        refine wpQuiet_nil ?_
        refine wpS_nil ?_
        refine then_normal ?_
        refine wp_cond_false rfl ?_
        refine wp_skip ?_
        refine block_normal ?_
        refine then_normal ?_
        refine wp_region_N [(0, 1), (1, 1)] (by kernel_rfl) ?_
        refine wpS_this [0, 1] rfl (by kernel_rfl) (by simp only [pickL, nthL, List.cons_append, List.nil_append]; rfl) ?_
        repeat (go_big_quiet_step (fail))
        refine wpQuiet_nil ?_
        refine wpS_nil ?_
        refine then_normal ?_
        refine ⟨by kernel_rfl, ?_⟩
        exact ⟨l.length - (k + 1), by omega, k + 1, T2, z2, listT (R :: l2), rfl, rfl, hk1, hZ2.out, hz2.out, hg.out.list l2, (Mem.only (M := [_, _, _]) HM81.out [4, 6, 0] rfl)⟩
      · have hb1 := Lib.hid ((hrise.out rfl).2)
        have hb2 := Lib.hid (hhas.out rfl hmc')
        have hmc := Lib.hid hmc'
        clear hmc'
        refine wp_region_N [(0, 1), (1, 1), (2, 1), (3, 1), (4, 1), (5, 1), (6, 1), (7, 3), (8, 1), (9, 1), (10, 1), (11, 1), (12, 1), (13, 1), (14, 1), (15, 1), (16, 3), (17, 1), (18, 1), (19, 1), (20, 1), (21, 1), (22, 3), (23, 1), (24, 1), (25, 1)] (by kernel_rfl) ?_
        refine wpS_this [0, 1, 2, 3, 4] rfl (by kernel_rfl) (by simp only [pickL, nthL, List.cons_append, List.nil_append]; rfl) ?_
        repeat (go_big_quiet_step (fail))
        refine wpQuiet_nil ?_
        refine wpS_loadA (i := 5) (d := some 76) (cells := rgC (wr) (.slice pw wr.p.2.2.length cw)) rfl (by rfl) rfl rfl (HM66.out.sub 4 rfl (fun k u h => by rw [Nat.zero_add]; exact h)) Try.underlying37 rfl (by kernel_rfl) rfl ?_
        simp only [Act.put, List.setIfInBounds_toArray, List.set_cons_succ, List.set_cons_zero]
        refine wpS_loadA (i := 6) (d := some 77) (cells := rgC (nr) (.slice pn nr.p.2.2.length cn)) rfl (by rfl) rfl rfl (HM66.out.sub 0 rfl (fun k u h => by rw [Nat.zero_add]; exact h)) Try.underlying37 rfl (by kernel_rfl) rfl ?_
        simp only [Act.put, List.setIfInBounds_toArray, List.set_cons_succ, List.set_cons_zero]
        refine wpS_does2 (i := 7) (d := some 78) (rem := [_, _, _, _, _, _]) (out := [_, _, _, _, _, _, _, _]) rfl (by rfl) rfl Try.call21 (Does.ofList (gbelow_d (listT [_, _]) _ wr (srcL 0 rfl rowT_reads) lwr.out _ nr (srcL 1 rfl rowT_reads) lnr.out)) rfl rfl HM66.out [5, 1] rfl covS_nil rfl rfl ?_
        rintro W83 hm82 -
        rw [hb1.out]
        have HM84 := Lib.hid hm82
        clear hm82
        simp only [Act.put, List.setIfInBounds_toArray, List.set_cons_succ, List.set_cons_zero]
        refine wpS_this [8, 9, 10, 11, 12, 13, 14] rfl (by kernel_rfl) (by simp only [pickL, nthL, List.cons_append, List.nil_append]; rfl) ?_
        repeat (go_big_quiet_step (fail))
        refine wpQuiet_nil ?_
        refine wpS_loadA (i := 15) (d := some 86) (cells := rgC y.r (.slice y.p y.n y.c)) rfl (by rfl) rfl rfl (HM84.out.sub 6 rfl (fun _ _ h => sub_app [_, _] _ [_, _] h)) Try.underlying37 rfl (by kernel_rfl) rfl ?_
        simp only [Act.put, List.setIfInBounds_toArray, List.set_cons_succ, List.set_cons_zero]
        refine wpS_does1 (i := 16) (d := some 87) (rem := [_, _, _, _, _, _, _]) (out := [_, _, _, _, _, _, _, _]) rfl (by rfl) rfl Try.call20 (gmay_d (listT (R :: l2)) _ y.r ((hg.out.list l2).reads (srcOld hyq.out.1)) ly.out) rfl HM84.out [4] rfl covS_nil rfl rfl ?_
        rintro W86 hm85 -
        rw [hmc.out]
        have HM87 := Lib.hid hm85
        clear hm85
        simp only [Act.put, List.setIfInBounds_toArray, List.set_cons_succ, List.set_cons_zero]
        refine wpS_this [17, 18, 19] rfl (by kernel_rfl) (by simp only [pickL, nthL, List.cons_append, List.nil_append]; rfl) ?_
        repeat (go_big_quiet_step (fail))
        refine wpQuiet_nil ?_
        refine wpS_loadA (i := 20) (d := some 91) (cells := rgC y.r (.slice y.p y.n y.c)) rfl (by rfl) rfl rfl (HM87.out.sub 6 rfl (fun _ _ h => sub_app [_, _] _ [_, _] h)) Try.underlying37 rfl (by kernel_rfl) rfl ?_
        simp only [Act.put, List.setIfInBounds_toArray, List.set_cons_succ, List.set_cons_zero]
        refine wpS_loadA (i := 21) (d := some 92) (cells := rgC (nr) (.slice pn nr.p.2.2.length cn)) rfl (by rfl) rfl rfl (HM87.out.sub 3 rfl (fun k u h => by rw [Nat.zero_add]; exact h)) Try.underlying37 rfl (by kernel_rfl) rfl ?_
        simp only [Act.put, List.setIfInBounds_toArray, List.set_cons_succ, List.set_cons_zero]
        refine wpS_does2 (i := 22) (d := some 93) (rem := [_, _, _, _, _, _]) (out := [_, _, _, _, _, _, _, _]) rfl (by rfl) rfl Try.call21 (Does.ofList (gbelow_d (listT [_, _]) _ y.r (srcL 0 rfl ((hg.out.list l2).reads (srcOld hyq.out.1))) ly.out _ nr (srcL 1 rfl rowT_reads) lnr.out)) rfl rfl HM87.out [0, 1] rfl covS_nil rfl rfl ?_
        rintro W89 hm88 -
        rw [hb2.out]
        have HM90 := Lib.hid hm88
        clear hm88
        simp only [Act.put, List.setIfInBounds_toArray, List.set_cons_succ, List.set_cons_zero]
        refine wpS_this [23, 24, 25] rfl (by kernel_rfl) (by simp only [pickL, nthL, List.cons_append, List.nil_append]; rfl) ?_
        repeat (go_big_quiet_step (fail))
        refine wpQuiet_nil ?_
        refine wpS_nil ?_
        refine then_normal ?_
        refine wp_cond_false rfl ?_
        refine wp_skip ?_
        refine block_normal ?_
        refine then_normal ?_
        refine wp_region_N [(0, 1), (1, 1)] (by kernel_rfl) ?_
        refine wpS_this [0, 1] rfl (by kernel_rfl) (by simp only [pickL, nthL, List.cons_append, List.nil_append]; rfl) ?_
        repeat (go_big_quiet_step (fail))
        refine wpQuiet_nil ?_
        refine wpS_nil ?_
        refine then_normal ?_
        refine ⟨by kernel_rfl, ?_⟩
        exact ⟨l.length - (k + 1), by omega, k + 1, T2, z2, listT (R :: l2), rfl, rfl, hk1, hZ2.out, hz2.out, hg.out.list l2, (Mem.only (M := [_, _, _]) HM90.out [4, 6, 0] rfl)⟩
    · have hge : Hid (l.length ≤ k) := Lib.hid (by have : ¬ (k : Int) < ((l.length : Nat) : Int) := (by simpa using h31); omega)
      clear h31
      refine wp_exit ?_
      refine then_exit (then_exit (block_exit ?_))
      refine then_normal ?_
      refine wp_seq ?_
      refine wp_region_N [(0, 3), (1, 1)] (by kernel_rfl) ?_
      refine wpS_buildN elemI (i := 0) (dd := 98) (n := 3) (xs := [1, 2, 3]) (cs := #[.int .i64 1, .int .i64 2, .int .i64 3]) rfl (by rfl) (fun _ => by kernel_rfl) rfl rfl HM30.out covS_nil rfl ?_
      rintro b93 W94 hm95 -
      have HM96 := Lib.hid hm95
      clear hm95
      simp only [Act.put, List.setIfInBounds_toArray, List.set_cons_succ, List.set_cons_zero]
      refine wpS_this [1] rfl (by kernel_rfl) (by simp only [pickL, nthL, List.cons_append, List.nil_append]; rfl) ?_
      repeat (go_big_quiet_step (fail))
      refine wpQuiet_nil ?_
      refine wpS_nil ?_
      refine then_normal ?_
      refine wp_seq ?_
      refine wp_region_N [(0, 3)] (by kernel_rfl) ?_
      refine wpS_alloc (i := 0) (dd := 15) (z := aV (List.replicate 4 0)) (cs := (((List.replicate 4 0) : List Int).map iV).toArray) rfl (by rfl) rfl (by kernel_rfl) rfl HM96.out covS_nil rfl ?_
      rintro tb W98 hm97 -
      have HM99 := Lib.hid hm97
      clear hm97
      simp only [Act.put, List.setIfInBounds_toArray, List.set_cons_succ, List.set_cons_zero]
      refine wpS_nil ?_
      refine then_normal ?_
      refine wp_seq ?_
      refine wp_seq ?_
      obtain ⟨R5, hg5', hz5', hp5', HU'⟩ : ∃ R5 : At, Grown (oldT W0) R5 ∧ KnowsOf R5 T.k z ∧ Reads elemI R5 (.slice (some ⟨b93, 0, none⟩) 3 3) [1, 2, 3] ∧ Mem [gtc d T z, boxT b3 (.cells (rgC (r) (.slice pr r.p.2.2.length cr)).toArray 37 (0, 0)), R5, arrT tb 57 (List.replicate 4 0)] H w _ := ⟨listT [R, rowT elemI (.slice (some ⟨b93, 0, none⟩) 3 3) [1, 2, 3]], hg.out.list _, hzT.out.grown ((Grown.refl R).list _), srcL 1 rfl rowT_reads, Mem.only (M := [_, _, _, _]) (Mem.into (Mem.only (M := [_, _, _, _, _]) (Mem.toOne (Mem.only (M := [_, _, _, _, _]) HM99.out [4, 1, 0, 0, 0] rfl)) [1, 0, 0, 0, 0] rfl)) [2, 2, 0, 0] rfl⟩
      have HU := Lib.hid HU'
      clear HU'
      have hg5 := Lib.hid hg5'
      clear hg5'
      have hz5 := Lib.hid hz5'
      clear hz5'
      have hp5 := Lib.hid hp5'
      clear hp5'
      have hTo : T = ⟨T.self, [], T.h, T.k⟩ := by rw [← hZ.out.o]
      rw [hTo] at HU
      clear hTo
      refine wp_region_N [(0, 1), (1, 1), (2, 1)] (by kernel_rfl) ?_
      refine wpS_this [0, 1, 2] rfl (by kernel_rfl) (by simp only [pickL, nthL, List.cons_append, List.nil_append]; rfl) ?_
      repeat (go_big_quiet_step (fail))
      refine wpQuiet_nil ?_
      refine wpS_nil ?_
      refine then_normal ?_
      refine wp_block ?_
      refine wp_loop_F [6, 16, 17, 18, 101, 102, 103, 104, 105, 106, 107, 108, 109, 110, 111, 112, 113, 114, 115, 116, 117, 118, 119, 120, 121, 122, 123, 124, 125, 126, 127, 128, 129, 130, 131] (fun n ws W' => ∃ (i : Nat) (o : List Int) (t : Nat → Int), n = dr.length - i ∧ ws 101 = .int .i64 (i : Int) ∧ i ≤ dr.length ∧ TellI T r i o t ∧ Mem [gtc d ⟨T.self, o, T.h, T.k⟩ z, boxT b3 (.cells (rgC (r) (.slice pr r.p.2.2.length cr)).toArray 37 (0, 0)), R5, arrT tb 57 [0, t 1, t 2, t 3]] H w W') (n0 := dr.length) ?_ ?_
      · exact ⟨0, [], fun _ => 0, rfl, rfl, Nat.zero_le _, tell_zero T r, (Mem.only (M := [_, _, _, _]) HU.out [0, 0, 0, 0] rfl)⟩
      rintro n ws W' ⟨i, o, t, rfl, e101, hi, hti, hmm⟩
      simp only [putAll, List.map_cons, List.map_nil, Act.put, List.setIfInBounds_toArray, List.set_cons_succ, List.set_cons_zero]
      rw [e101]
      clear e101
      have hbd := tell_bound hti (by omega)
      replace hti := Lib.hid hti
      obtain ⟨u1, hu1'⟩ := int_letter (t 1)
      have hu1 := Lib.hid hu1'
      clear hu1'
      obtain ⟨u2, hu2'⟩ := int_letter (t 2)
      have hu2 := Lib.hid hu2'
      clear hu2'
      obtain ⟨u3, hu3'⟩ := int_letter (t 3)
      have hu3 := Lib.hid hu3'
      clear hu3'
      rw [hu1.out, hu2.out, hu3.out] at hbd hmm
      obtain ⟨⟨hb10, hb11⟩, ⟨hb20, hb21⟩, hb30, hb31⟩ := hbd
      have HM100 := Lib.hid hmm
      clear hmm
      refine wp_seq ?_
      refine wp_region_N [(0, 1)] (by kernel_rfl) ?_
      refine wpS_this [0] rfl (by kernel_rfl) (by simp only [pickL, nthL, List.cons_append, List.nil_append]; rfl) ?_
      repeat (go_big_quiet_step (fail))
      refine wpQuiet_nil ?_
      refine wpS_nil ?_
      refine then_normal ?_
      refine wp_seq ?_
      refine wp_cond_split rfl (fun h101 => ?_) (fun h101 => ?_)
      · have hi1 : i + 1 ≤ dr.length := by have : (i : Int) < ((dr.length : Nat) : Int) := (by simpa using h101); omega
        clear h101
        obtain ⟨y, hy'⟩ : ∃ y, dr[i]? = some y := ⟨_, List.getElem?_eq_getElem (hi1)⟩
        have hy := Lib.hid hy'
        clear hy'
        have hyb := Lib.hid (hu.out y (List.mem_of_getElem? hy.out))
        refine wp_skip ?_
        refine then_normal ?_
        refine wp_seq ?_
        refine wp_block ?_
        refine wp_seq ?_
        refine wp_region_N [(0, 1), (1, 1), (2, 1), (3, 1), (4, 1)] (by kernel_rfl) ?_
        refine wpS_this [0] rfl (by kernel_rfl) (by simp only [pickL, nthL, List.cons_append, List.nil_append]; rfl) ?_
        repeat (go_big_quiet_step (fail))
        refine wpQuiet_nil ?_
        refine wpS_index (E := elemD) (i := 1) (d := some 104) rfl (by rfl) rfl rfl rfl (HM100.out.row 2 rfl (hg5.out.row hD.out)) (hy.out) rfl ?_
        intro eb102 eo103 hc104
        simp only [Act.put, List.setIfInBounds_toArray, List.set_cons_succ, List.set_cons_zero]
        refine wpS_load1 (i := 2) (d := some 105) (u := .int .u64 y) rfl (by rfl) rfl rfl (hc104 0 _ rfl) Try.underlying38 rfl rfl ?_
        simp only [Act.put, List.setIfInBounds_toArray, List.set_cons_succ, List.set_cons_zero]
        refine wpS_this [3, 4] rfl (by kernel_rfl) (by simp only [pickL, nthL, List.cons_append, List.nil_append]; rfl) ?_
        repeat (go_big_quiet_step (fail))
        refine wpQuiet_nil ?_
        refine wpS_nil ?_
        refine then_normal ?_
        refine wp_seq ?_
        obtain ⟨o', hto', hway⟩ := tell_step hZ.out.self hti.out y
        have hto := Lib.hid hto'
        clear hto'
        rcases hway with ⟨hta', hti'⟩ | ⟨x, rfl | rfl | rfl, hta', hti', hle'⟩
        · have hta := Lib.hid hta'
          have hti2 := Lib.hid hti'
          clear hta' hti'
          refine wp_region_N [(0, 1), (1, 1), (2, 1), (3, 1), (4, 3), (5, 1)] (by kernel_rfl) ?_
          refine wpS_this [0] rfl (by kernel_rfl) (by simp only [pickL, nthL, List.cons_append, List.nil_append]; rfl) ?_
          repeat (go_big_quiet_step (fail))
          refine wpQuiet_nil ?_
          refine wpS_loadA (i := 1) (d := some 107) (cells := rgC (r) (.slice pr r.p.2.2.length cr)) rfl (by rfl) rfl rfl (HM100.out.sub 1 rfl (fun k u h => by rw [Nat.zero_add]; exact h)) Try.underlying37 rfl (by kernel_rfl) rfl ?_
          simp only [Act.put, List.setIfInBounds_toArray, List.set_cons_succ, List.set_cons_zero]
          refine wpS_this [2, 3] rfl (by kernel_rfl) (by simp only [pickL, nthL, List.cons_append, List.nil_append]; rfl) ?_
          repeat (go_big_quiet_step (fail))
          refine wpQuiet_nil ?_
          refine wpS_does4 (i := 4) (d := some 110) (rem := [_, _]) (out := [_, _, _, _]) rfl (by rfl) rfl Try.call12 (gturn_d d ⟨T.self, o, T.h, T.k⟩ z R5 hz5.out _ r (hg5.out.reads hr.out) lr.out _ [1, 2, 3] hp5.out (Nat.le_of_ble_eq_true rfl) y hyb.out.1 hyb.out.2) rfl rfl rfl rfl HM100.out [0, 1] rfl covS_nil rfl rfl ?_
          rintro W106 hm105 -
          rw [hta.out]
          rw [hto.out] at hm105
          have HM107 := Lib.hid hm105
          clear hm105
          simp only [Act.put, List.setIfInBounds_toArray, List.set_cons_succ, List.set_cons_zero]
          refine wpS_this [5] rfl (by kernel_rfl) (by simp only [pickL, nthL, List.cons_append, List.nil_append]; rfl) ?_
          repeat (go_big_quiet_step (fail))
          refine wpQuiet_nil ?_
          refine wpS_nil ?_
          refine then_normal ?_
          refine wp_seq ?_
          refine wp_seq ?_
          refine wp_region_N [(0, 1), (1, 1)] (by kernel_rfl) ?_
          refine wpS_this [0, 1] rfl (by kernel_rfl) (by simp only [pickL, nthL, List.cons_append, List.nil_append]; rfl) ?_
          repeat (go_big_quiet_step (fail))
          refine wpQuiet_nil ?_
          refine wpS_nil ?_
          refine then_normal ?_
          refine wp_cond_true rfl ?_
          refine wp_exit ?_
          refine then_exit (block_exit ?_)
          refine then_normal ?_
          refine wp_region_N [(0, 1), (1, 1)] (by kernel_rfl) ?_
          refine wpS_this [0, 1] rfl (by kernel_rfl) (by simp only [pickL, nthL, List.cons_append, List.nil_append]; rfl) ?_
          repeat (go_big_quiet_step (fail))
          refine wpQuiet_nil ?_
          refine wpS_nil ?_
          refine then_normal ?_
          refine ⟨by kernel_rfl, ?_⟩
          exact ⟨dr.length - (i + 1), by omega, i + 1, o', t, rfl, rfl, hi1, hti2.out, by rw [hu1.out, hu2.out, hu3.out]; exact (Mem.only (M := [_, _, _, _]) HM107.out [0, 1, 0, 0] rfl)⟩
        · have hta : Hid (turnA ⟨T.self, o, T.h, T.k⟩ r [1, 2, 3] y = (1 : Int)) := Lib.hid hta'
          have hti2 := Lib.hid hti'
          rw [hu1.out] at hle'
          have hle := Lib.hid hle'
          clear hta' hti' hle'
          obtain ⟨q3, hq3'⟩ := nat_letter (i / 3)
          have hqi : Hid ((i : Int) / 3 = (q3 : Int)) := Lib.hid (by rw [← hq3']; omega)
          have g23 : decide ((q3 : Int) < u1) = false := decide_eq_false (by have := hle.out; rw [hq3'] at this; omega)
          have hq13 : q3 ≤ 13 := by omega
          clear hq3'
          have hup : Hid (([0, upd t 1 (t 1 + 1) 1, upd t 1 (t 1 + 1) 2, upd t 1 (t 1 + 1) 3] : List Int) = [0, u1 + 1, u2, u3]) := Lib.hid (by rw [← hu1.out, ← hu2.out, ← hu3.out]; rfl)
          refine wp_region_N [(0, 1), (1, 1), (2, 1), (3, 1), (4, 3), (5, 1)] (by kernel_rfl) ?_
          refine wpS_this [0] rfl (by kernel_rfl) (by simp only [pickL, nthL, List.cons_append, List.nil_append]; rfl) ?_
          repeat (go_big_quiet_step (fail))
          refine wpQuiet_nil ?_
          refine wpS_loadA (i := 1) (d := some 107) (cells := rgC (r) (.slice pr r.p.2.2.length cr)) rfl (by rfl) rfl rfl (HM100.out.sub 1 rfl (fun k u h => by rw [Nat.zero_add]; exact h)) Try.underlying37 rfl (by kernel_rfl) rfl ?_
          simp only [Act.put, List.setIfInBounds_toArray, List.set_cons_succ, List.set_cons_zero]
          refine wpS_this [2, 3] rfl (by kernel_rfl) (by simp only [pickL, nthL, List.cons_append, List.nil_append]; rfl) ?_
          repeat (go_big_quiet_step (fail))
          refine wpQuiet_nil ?_
          refine wpS_does4 (i := 4) (d := some 110) (rem := [_, _]) (out := [_, _, _, _]) rfl (by rfl) rfl Try.call12 (gturn_d d ⟨T.self, o, T.h, T.k⟩ z R5 hz5.out _ r (hg5.out.reads hr.out) lr.out _ [1, 2, 3] hp5.out (Nat.le_of_ble_eq_true rfl) y hyb.out.1 hyb.out.2) rfl rfl rfl rfl HM100.out [0, 1] rfl covS_nil rfl rfl ?_
          rintro W109 hm108 -
          rw [hta.out]
          rw [hto.out] at hm108
          have HM110 := Lib.hid hm108
          clear hm108
          simp only [Act.put, List.setIfInBounds_toArray, List.set_cons_succ, List.set_cons_zero]
          refine wpS_this [5] rfl (by kernel_rfl) (by simp only [pickL, nthL, List.cons_append, List.nil_append]; rfl) ?_
          repeat (go_big_quiet_step (fail))
          refine wpQuiet_nil ?_
          refine wpS_nil ?_
          refine then_normal ?_
          refine wp_seq ?_
          refine wp_seq ?_
          refine wp_region_N [(0, 1), (1, 1)] (by kernel_rfl) ?_
          refine wpS_this [0, 1] rfl (by kernel_rfl) (by simp only [pickL, nthL, List.cons_append, List.nil_append]; rfl) ?_
          repeat (go_big_quiet_step (fail))
          refine wpQuiet_nil ?_
          refine wpS_nil ?_
          refine then_normal ?_
          refine wp_cond_false rfl ?_
          refine wp_skip ?_
          refine then_normal ?_
          refine wp_seq ?_
          refine wp_seq ?_
          refine wp_region_N [(0, 1), (1, 1), (2, 1), (3, 1), (4, 1), (5, 1)] (by kernel_rfl) ?_
          refine wpS_this [0, 1, 2, 3, 4, 5] rfl (by kernel_rfl) (by simp only [pickL, nthL, List.cons_append, List.nil_append]; rfl) ?_
          repeat (go_big_quiet_step (fail))
          refine wpQuiet_nil ?_
          refine wpS_nil ?_
          refine then_normal ?_
          refine wp_cond_false rfl ?_
          refine wp_skip ?_
          refine then_normal ?_
          refine wp_seq ?_
          refine wp_region_N [(0, 1), (1, 1), (2, 1), (3, 1), (4, 1), (5, 3)] (by kernel_rfl) ?_
          refine wpS_this [0] rfl (by kernel_rfl) (by simp only [pickL, nthL, List.cons_append, List.nil_append]; rfl) ?_
          repeat (go_big_quiet_step (fail))
          refine wpQuiet_nil ?_
          refine wpS_addrArr (i := 1) (d := some 120) (b := tb) (j := 1) is4 rfl (by rfl) rfl rfl rfl (by decide) rfl ?_
          simp only [Act.put, List.setIfInBounds_toArray, List.set_cons_succ, List.set_cons_zero]
          refine wpS_loadEl (i := 2) (d := some 121) (y := u1) rfl (by rfl) rfl rfl (HM110.out.arr 3 rfl (rfl)) rfl ?_
          simp only [Act.put, List.setIfInBounds_toArray, List.set_cons_succ, List.set_cons_zero]
          refine wpS_this [3] rfl (by kernel_rfl) (by simp only [pickL, nthL, List.cons_append, List.nil_append]; rfl) ?_
          repeat (go_big_quiet_step (fail))
          refine wpQuiet_nil ?_
          refine wpS_addrArr (i := 4) (d := some 123) (b := tb) (j := 1) is4 rfl (by rfl) rfl rfl rfl (by decide) rfl ?_
          simp only [Act.put, List.setIfInBounds_toArray, List.set_cons_succ, List.set_cons_zero]
          refine wpS_setEl (i := 5) (z := (u1 + 1)) (L2 := [_, _, _]) rfl (by rfl) rfl rfl rfl HM110.out 3 rfl rfl (by simp) covS_nil rfl ?_
          rintro W112 hm111 -
          have HM113 := Lib.hid hm111
          clear hm111
          refine wpS_nil ?_
          refine then_normal ?_
          refine wp_seq ?_
          refine wp_region_N [(0, 1), (1, 1), (2, 1), (3, 1), (4, 1), (5, 1), (6, 1)] (by kernel_rfl) ?_
          refine wpS_this [0] rfl (by kernel_rfl) (by simp only [pickL, nthL, List.cons_append, List.nil_append]; rfl) ?_
          repeat (go_big_quiet_step (fail))
          refine wpQuiet_nil ?_
          refine wpS_addrArr (i := 1) (d := some 125) (b := tb) (j := 1) is4 rfl (by rfl) rfl rfl rfl (by decide) rfl ?_
          simp only [Act.put, List.setIfInBounds_toArray, List.set_cons_succ, List.set_cons_zero]
          refine wpS_loadEl (i := 2) (d := some 126) (y := (u1 + 1)) rfl (by rfl) rfl rfl (HM113.out.arr 0 rfl (rfl)) rfl ?_
          simp only [Act.put, List.setIfInBounds_toArray, List.set_cons_succ, List.set_cons_zero]
          refine wpS_this [3] rfl (by kernel_rfl) (by simp only [pickL, nthL, List.cons_append, List.nil_append]; rfl) ?_
          repeat (go_big_quiet_step (fail))
          refine wpQuiet_nil ?_
          refine wpS_this [4] rfl (by kernel_rfl) (by simp only [pickL, nthL, List.cons_append, List.nil_append]; rfl) ?_
          repeat (go_big_quiet_step (fail))
          refine wpQuiet_nil ?_
          rw [hqi.out]
          refine wpS_this [5, 6] rfl (by kernel_rfl) (by simp only [pickL, nthL, List.cons_append, List.nil_append]; rfl) ?_
          repeat (go_big_quiet_step (fail))
          refine wpQuiet_nil ?_
          refine wpS_nil ?_
          refine then_normal ?_
          refine wp_cond_false rfl ?_
          refine wp_skip ?_
          refine block_normal ?_
          refine then_normal ?_
          refine wp_region_N [(0, 1), (1, 1)] (by kernel_rfl) ?_
          refine wpS_this [0, 1] rfl (by kernel_rfl) (by simp only [pickL, nthL, List.cons_append, List.nil_append]; rfl) ?_
          repeat (go_big_quiet_step (fail))
          refine wpQuiet_nil ?_
          refine wpS_nil ?_
          refine then_normal ?_
          refine ⟨by kernel_rfl, ?_⟩
          refine ⟨dr.length - (i + 1), by omega, i + 1, o', _, rfl, rfl, hi1, hti2.out, ?_⟩
          rw [hup.out]
          exact (Mem.only (M := [_, _, _, _]) HM113.out [1, 2, 1, 0] rfl)
        · have hta : Hid (turnA ⟨T.self, o, T.h, T.k⟩ r [1, 2, 3] y = (2 : Int)) := Lib.hid hta'
          have hti2 := Lib.hid hti'
          rw [hu2.out] at hle'
          have hle := Lib.hid hle'
          clear hta' hti' hle'
          obtain ⟨q3, hq3'⟩ := nat_letter (i / 3)
          have hqi : Hid ((i : Int) / 3 = (q3 : Int)) := Lib.hid (by rw [← hq3']; omega)
          have g23 : decide ((q3 : Int) < u2) = false := decide_eq_false (by have := hle.out; rw [hq3'] at this; omega)
          have hq13 : q3 ≤ 13 := by omega
          clear hq3'
          have hup : Hid (([0, upd t 2 (t 2 + 1) 1, upd t 2 (t 2 + 1) 2, upd t 2 (t 2 + 1) 3] : List Int) = [0, u1, u2 + 1, u3]) := Lib.hid (by rw [← hu1.out, ← hu2.out, ← hu3.out]; rfl)
          refine wp_region_N [(0, 1), (1, 1), (2, 1), (3, 1), (4, 3), (5, 1)] (by kernel_rfl) ?_
          refine wpS_this [0] rfl (by kernel_rfl) (by simp only [pickL, nthL, List.cons_append, List.nil_append]; rfl) ?_
          repeat (go_big_quiet_step (fail))
          refine wpQuiet_nil ?_
          refine wpS_loadA (i := 1) (d := some 107) (cells := rgC (r) (.slice pr r.p.2.2.length cr)) rfl (by rfl) rfl rfl (HM100.out.sub 1 rfl (fun k u h => by rw [Nat.zero_add]; exact h)) Try.underlying37 rfl (by kernel_rfl) rfl ?_
          simp only [Act.put, List.setIfInBounds_toArray, List.set_cons_succ, List.set_cons_zero]
          refine wpS_this [2, 3] rfl (by kernel_rfl) (by simp only [pickL, nthL, List.cons_append, List.nil_append]; rfl) ?_
          repeat (go_big_quiet_step (fail))
          refine wpQuiet_nil ?_
          refine wpS_does4 (i := 4) (d := some 110) (rem := [_, _]) (out := [_, _, _, _]) rfl (by rfl) rfl Try.call12 (gturn_d d ⟨T.self, o, T.h, T.k⟩ z R5 hz5.out _ r (hg5.out.reads hr.out) lr.out _ [1, 2, 3] hp5.out (Nat.le_of_ble_eq_true rfl) y hyb.out.1 hyb.out.2) rfl rfl rfl rfl HM100.out [0, 1] rfl covS_nil rfl rfl ?_
          rintro W115 hm114 -
          rw [hta.out]
          rw [hto.out] at hm114
          have HM116 := Lib.hid hm114
          clear hm114
          simp only [Act.put, List.setIfInBounds_toArray, List.set_cons_succ, List.set_cons_zero]
          refine wpS_this [5] rfl (by kernel_rfl) (by simp only [pickL, nthL, List.cons_append, List.nil_append]; rfl) ?_
          repeat (go_big_quiet_step (fail))
          refine wpQuiet_nil ?_
          refine wpS_nil ?_
          refine then_normal ?_
          refine wp_seq ?_
          refine wp_seq ?_
          refine wp_region_N [(0, 1), (1, 1)] (by kernel_rfl) ?_
          refine wpS_this [0, 1] rfl (by kernel_rfl) (by simp only [pickL, nthL, List.cons_append, List.nil_append]; rfl) ?_
          repeat (go_big_quiet_step (fail))
          refine wpQuiet_nil ?_
          refine wpS_nil ?_
          refine then_normal ?_
          refine wp_cond_false rfl ?_
          refine wp_skip ?_
          refine then_normal ?_
          refine wp_seq ?_
          refine wp_seq ?_
          refine wp_region_N [(0, 1), (1, 1), (2, 1), (3, 1), (4, 1), (5, 1)] (by kernel_rfl) ?_
          refine wpS_this [0, 1, 2, 3, 4, 5] rfl (by kernel_rfl) (by simp only [pickL, nthL, List.cons_append, List.nil_append]; rfl) ?_
          repeat (go_big_quiet_step (fail))
          refine wpQuiet_nil ?_
          refine wpS_nil ?_
          refine then_normal ?_
          refine wp_cond_false rfl ?_
          refine wp_skip ?_
          refine then_normal ?_
          refine wp_seq ?_
          refine wp_region_N [(0, 1), (1, 1), (2, 1), (3, 1), (4, 1), (5, 3)] (by kernel_rfl) ?_
          refine wpS_this [0] rfl (by kernel_rfl) (by simp only [pickL, nthL, List.cons_append, List.nil_append]; rfl) ?_
          repeat (go_big_quiet_step (fail))
          refine wpQuiet_nil ?_
          refine wpS_addrArr (i := 1) (d := some 120) (b := tb) (j := 2) is4 rfl (by rfl) rfl rfl rfl (by decide) rfl ?_
          simp only [Act.put, List.setIfInBounds_toArray, List.set_cons_succ, List.set_cons_zero]
          refine wpS_loadEl (i := 2) (d := some 121) (y := u2) rfl (by rfl) rfl rfl (HM116.out.arr 3 rfl (rfl)) rfl ?_
          simp only [Act.put, List.setIfInBounds_toArray, List.set_cons_succ, List.set_cons_zero]
          refine wpS_this [3] rfl (by kernel_rfl) (by simp only [pickL, nthL, List.cons_append, List.nil_append]; rfl) ?_
          repeat (go_big_quiet_step (fail))
          refine wpQuiet_nil ?_
          refine wpS_addrArr (i := 4) (d := some 123) (b := tb) (j := 2) is4 rfl (by rfl) rfl rfl rfl (by decide) rfl ?_
          simp only [Act.put, List.setIfInBounds_toArray, List.set_cons_succ, List.set_cons_zero]
          refine wpS_setEl (i := 5) (z := (u2 + 1)) (L2 := [_, _, _]) rfl (by rfl) rfl rfl rfl HM116.out 3 rfl rfl (by simp) covS_nil rfl ?_
          rintro W118 hm117 -
          have HM119 := Lib.hid hm117
          clear hm117
          refine wpS_nil ?_
          refine then_normal ?_
          refine wp_seq ?_
          refine wp_region_N [(0, 1), (1, 1), (2, 1), (3, 1), (4, 1), (5, 1), (6, 1)] (by kernel_rfl) ?_
          refine wpS_this [0] rfl (by kernel_rfl) (by simp only [pickL, nthL, List.cons_append, List.nil_append]; rfl) ?_
          repeat (go_big_quiet_step (fail))
          refine wpQuiet_nil ?_
          refine wpS_addrArr (i := 1) (d := some 125) (b := tb) (j := 2) is4 rfl (by rfl) rfl rfl rfl (by decide) rfl ?_
          simp only [Act.put, List.setIfInBounds_toArray, List.set_cons_succ, List.set_cons_zero]
          refine wpS_loadEl (i := 2) (d := some 126) (y := (u2 + 1)) rfl (by rfl) rfl rfl (HM119.out.arr 0 rfl (rfl)) rfl ?_
          simp only [Act.put, List.setIfInBounds_toArray, List.set_cons_succ, List.set_cons_zero]
          refine wpS_this [3] rfl (by kernel_rfl) (by simp only [pickL, nthL, List.cons_append, List.nil_append]; rfl) ?_
          repeat (go_big_quiet_step (fail))
          refine wpQuiet_nil ?_
          refine wpS_this [4] rfl (by kernel_rfl) (by simp only [pickL, nthL, List.cons_append, List.nil_append]; rfl) ?_
          repeat (go_big_quiet_step (fail))
          refine wpQuiet_nil ?_
          rw [hqi.out]
          refine wpS_this [5, 6] rfl (by kernel_rfl) (by simp only [pickL, nthL, List.cons_append, List.nil_append]; rfl) ?_
          repeat (go_big_quiet_step (fail))
          refine wpQuiet_nil ?_
          refine wpS_nil ?_
          refine then_normal ?_
          refine wp_cond_false rfl ?_
          refine wp_skip ?_
          refine block_normal ?_
          refine then_normal ?_
          refine wp_region_N [(0, 1), (1, 1)] (by kernel_rfl) ?_
          refine wpS_this [0, 1] rfl (by kernel_rfl) (by simp only [pickL, nthL, List.cons_append, List.nil_append]; rfl) ?_
          repeat (go_big_quiet_step (fail))
          refine wpQuiet_nil ?_
          refine wpS_nil ?_
          refine then_normal ?_
          refine ⟨by kernel_rfl, ?_⟩
          refine ⟨dr.length - (i + 1), by omega, i + 1, o', _, rfl, rfl, hi1, hti2.out, ?_⟩
          rw [hup.out]
          exact (Mem.only (M := [_, _, _, _]) HM119.out [1, 2, 1, 0] rfl)
        · have hta : Hid (turnA ⟨T.self, o, T.h, T.k⟩ r [1, 2, 3] y = (3 : Int)) := Lib.hid hta'
          have hti2 := Lib.hid hti'
          rw [hu3.out] at hle'
          have hle := Lib.hid hle'
          clear hta' hti' hle'
          obtain ⟨q3, hq3'⟩ := nat_letter (i / 3)
          have hqi : Hid ((i : Int) / 3 = (q3 : Int)) := Lib.hid (by rw [← hq3']; omega)
          have g23 : decide ((q3 : Int) < u3) = false := decide_eq_false (by have := hle.out; rw [hq3'] at this; omega)
          have hq13 : q3 ≤ 13 := by omega
          clear hq3'
          have hup : Hid (([0, upd t 3 (t 3 + 1) 1, upd t 3 (t 3 + 1) 2, upd t 3 (t 3 + 1) 3] : List Int) = [0, u1, u2, u3 + 1]) := Lib.hid (by rw [← hu1.out, ← hu2.out, ← hu3.out]; rfl)
          refine wp_region_N [(0, 1), (1, 1), (2, 1), (3, 1), (4, 3), (5, 1)] (by kernel_rfl) ?_
          refine wpS_this [0] rfl (by kernel_rfl) (by simp only [pickL, nthL, List.cons_append, List.nil_append]; rfl) ?_
          repeat (go_big_quiet_step (fail))
          refine wpQuiet_nil ?_
          refine wpS_loadA (i := 1) (d := some 107) (cells := rgC (r) (.slice pr r.p.2.2.length cr)) rfl (by rfl) rfl rfl (HM100.out.sub 1 rfl (fun k u h => by rw [Nat.zero_add]; exact h)) Try.underlying37 rfl (by kernel_rfl) rfl ?_
          simp only [Act.put, List.setIfInBounds_toArray, List.set_cons_succ, List.set_cons_zero]
          refine wpS_this [2, 3] rfl (by kernel_rfl) (by simp only [pickL, nthL, List.cons_append, List.nil_append]; rfl) ?_
          repeat (go_big_quiet_step (fail))
          refine wpQuiet_nil ?_
          refine wpS_does4 (i := 4) (d := some 110) (rem := [_, _]) (out := [_, _, _, _]) rfl (by rfl) rfl Try.call12 (gturn_d d ⟨T.self, o, T.h, T.k⟩ z R5 hz5.out _ r (hg5.out.reads hr.out) lr.out _ [1, 2, 3] hp5.out (Nat.le_of_ble_eq_true rfl) y hyb.out.1 hyb.out.2) rfl rfl rfl rfl HM100.out [0, 1] rfl covS_nil rfl rfl ?_
          rintro W121 hm120 -
          rw [hta.out]
          rw [hto.out] at hm120
          have HM122 := Lib.hid hm120
          clear hm120
          simp only [Act.put, List.setIfInBounds_toArray, List.set_cons_succ, List.set_cons_zero]
          refine wpS_this [5] rfl (by kernel_rfl) (by simp only [pickL, nthL, List.cons_append, List.nil_append]; rfl) ?_
          repeat (go_big_quiet_step (fail))
          refine wpQuiet_nil ?_
          refine wpS_nil ?_
          refine then_normal ?_
          refine wp_seq ?_
          refine wp_seq ?_
          refine wp_region_N [(0, 1), (1, 1)] (by kernel_rfl) ?_
          refine wpS_this [0, 1] rfl (by kernel_rfl) (by simp only [pickL, nthL, List.cons_append, List.nil_append]; rfl) ?_
          repeat (go_big_quiet_step (fail))
          refine wpQuiet_nil ?_
          refine wpS_nil ?_
          refine then_normal ?_
          refine wp_cond_false rfl ?_
          refine wp_skip ?_
          refine then_normal ?_
          refine wp_seq ?_
          refine wp_seq ?_
          refine wp_region_N [(0, 1), (1, 1), (2, 1), (3, 1), (4, 1), (5, 1)] (by kernel_rfl) ?_
          refine wpS_this [0, 1, 2, 3, 4, 5] rfl (by kernel_rfl) (by simp only [pickL, nthL, List.cons_append, List.nil_append]; rfl) ?_
          repeat (go_big_quiet_step (fail))
          refine wpQuiet_nil ?_
          refine wpS_nil ?_
          refine then_normal ?_
          refine wp_cond_false rfl ?_
          refine wp_skip ?_
          refine then_normal ?_
          refine wp_seq ?_
          refine wp_region_N [(0, 1), (1, 1), (2, 1), (3, 1), (4, 1), (5, 3)] (by kernel_rfl) ?_
          refine wpS_this [0] rfl (by kernel_rfl) (by simp only [pickL, nthL, List.cons_append, List.nil_append]; rfl) ?_
          repeat (go_big_quiet_step (fail))
          refine wpQuiet_nil ?_
          refine wpS_addrArr (i := 1) (d := some 120) (b := tb) (j := 3) is4 rfl (by rfl) rfl rfl rfl (by decide) rfl ?_
          simp only [Act.put, List.setIfInBounds_toArray, List.set_cons_succ, List.set_cons_zero]
          refine wpS_loadEl (i := 2) (d := some 121) (y := u3) rfl (by rfl) rfl rfl (HM122.out.arr 3 rfl (rfl)) rfl ?_
          simp only [Act.put, List.setIfInBounds_toArray, List.set_cons_succ, List.set_cons_zero]
          refine wpS_this [3] rfl (by kernel_rfl) (by simp only [pickL, nthL, List.cons_append, List.nil_append]; rfl) ?_
          repeat (go_big_quiet_step (fail))
          refine wpQuiet_nil ?_
          refine wpS_addrArr (i := 4) (d := some 123) (b := tb) (j := 3) is4 rfl (by rfl) rfl rfl rfl (by decide) rfl ?_
          simp only [Act.put, List.setIfInBounds_toArray, List.set_cons_succ, List.set_cons_zero]
          refine wpS_setEl (i := 5) (z := (u3 + 1)) (L2 := [_, _, _]) rfl (by rfl) rfl rfl rfl HM122.out 3 rfl rfl (by simp) covS_nil rfl ?_
          rintro W124 hm123 -
          have HM125 := Lib.hid hm123
          clear hm123
          refine wpS_nil ?_
          refine then_normal ?_
          refine wp_seq ?_
          refine wp_region_N [(0, 1), (1, 1), (2, 1), (3, 1), (4, 1), (5, 1), (6, 1)] (by kernel_rfl) ?_
          refine wpS_this [0] rfl (by kernel_rfl) (by simp only [pickL, nthL, List.cons_append, List.nil_append]; rfl) ?_
          repeat (go_big_quiet_step (fail))
          refine wpQuiet_nil ?_
          refine wpS_addrArr (i := 1) (d := some 125) (b := tb) (j := 3) is4 rfl (by rfl) rfl rfl rfl (by decide) rfl ?_
          simp only [Act.put, List.setIfInBounds_toArray, List.set_cons_succ, List.set_cons_zero]
          refine wpS_loadEl (i := 2) (d := some 126) (y := (u3 + 1)) rfl (by rfl) rfl rfl (HM125.out.arr 0 rfl (rfl)) rfl ?_
          simp only [Act.put, List.setIfInBounds_toArray, List.set_cons_succ, List.set_cons_zero]
          refine wpS_this [3] rfl (by kernel_rfl) (by simp only [pickL, nthL, List.cons_append, List.nil_append]; rfl) ?_
          repeat (go_big_quiet_step (fail))
          refine wpQuiet_nil ?_
          refine wpS_this [4] rfl (by kernel_rfl) (by simp only [pickL, nthL, List.cons_append, List.nil_append]; rfl) ?_
          repeat (go_big_quiet_step (fail))
          refine wpQuiet_nil ?_
          rw [hqi.out]
          refine wpS_this [5, 6] rfl (by kernel_rfl) (by simp only [pickL, nthL, List.cons_append, List.nil_append]; rfl) ?_
          repeat (go_big_quiet_step (fail))
          refine wpQuiet_nil ?_
          refine wpS_nil ?_
          refine then_normal ?_
          refine wp_cond_false rfl ?_
          refine wp_skip ?_
          refine block_normal ?_
          refine then_normal ?_
          refine wp_region_N [(0, 1), (1, 1)] (by kernel_rfl) ?_
          refine wpS_this [0, 1] rfl (by kernel_rfl) (by simp only [pickL, nthL, List.cons_append, List.nil_append]; rfl) ?_
          repeat (go_big_quiet_step (fail))
          refine wpQuiet_nil ?_
          refine wpS_nil ?_
          refine then_normal ?_
          refine ⟨by kernel_rfl, ?_⟩
          refine ⟨dr.length - (i + 1), by omega, i + 1, o', _, rfl, rfl, hi1, hti2.out, ?_⟩
          rw [hup.out]
          exact (Mem.only (M := [_, _, _, _]) HM125.out [1, 2, 1, 0] rfl)
      · have hge2 : Hid (dr.length ≤ i) := Lib.hid (by have : ¬ (i : Int) < ((dr.length : Nat) : Int) := (by simpa using h101); omega)
        clear h101
        refine wp_exit ?_
        refine then_exit (then_exit (block_exit ?_))
        refine then_normal ?_
        refine wp_seq ?_
        refine wp_seq ?_
        refine wp_region_N [(0, 1), (1, 1), (2, 1)] (by kernel_rfl) ?_
        refine wpS_this [0, 1, 2] rfl (by kernel_rfl) (by simp only [pickL, nthL, List.cons_append, List.nil_append]; rfl) ?_
        repeat (go_big_quiet_step (fail))
        refine wpQuiet_nil ?_
        refine wpS_nil ?_
        refine then_normal ?_
        refine wp_block ?_
        refine wp_loop_F [6, 20, 21, 22, 23, 134, 135, 136, 137, 138, 139, 140, 141, 142, 143, 144, 145, 146, 147, 148, 149, 150, 151, 152, 153, 154, 155, 156, 157, 158, 159, 160, 161, 162, 163, 164, 165, 166, 167, 168, 169, 170] (fun n us W' => ∃ k3 : Nat, n = 3 - k3 ∧ us 134 = .int .i64 (k3 : Int) ∧ k3 ≤ 3 ∧ Mem [gtc d ⟨T.self, o, T.h, T.k⟩ z, boxT b3 (.cells (rgC (r) (.slice pr r.p.2.2.length cr)).toArray 37 (0, 0)), R5, arrT tb 57 [0, t 1, t 2, t 3]] H w W') (n0 := 3) ?_ ?_
        · exact ⟨0, rfl, rfl, Nat.zero_le _, by rw [hu1.out, hu2.out, hu3.out]; exact (Mem.only (M := [_, _, _, _]) HM100.out [0, 0, 0, 0] rfl)⟩
        rintro n us W' ⟨k3, rfl, e134, hk3, hmu⟩
        simp only [putAll, List.map_cons, List.map_nil, Act.put, List.setIfInBounds_toArray, List.set_cons_succ, List.set_cons_zero]
        rw [e134]
        clear e134
        have HM126 := Lib.hid hmu
        clear hmu
        refine wp_seq ?_
        refine wp_region_N [(0, 1)] (by kernel_rfl) ?_
        refine wpS_this [0] rfl (by kernel_rfl) (by simp only [pickL, nthL, List.cons_append, List.nil_append]; rfl) ?_
        repeat (go_big_quiet_step (fail))
        refine wpQuiet_nil ?_
        refine wpS_nil ?_
        refine then_normal ?_
        refine wp_seq ?_
        refine wp_cond_split rfl (fun h127 => ?_) (fun h127 => ?_)
        · have hk31 : k3 + 1 ≤ 3 := by have : (k3 : Int) < 3 := (by simpa using h127); omega
          clear h127
          obtain ⟨tp, htp'⟩ := int_letter (t (k3 + 1))
          have hend := tell_end hti.out (three_or hk31)
          have hq' := tell_q (S := T) (r := r) (show k3 + 1 < 8 by omega) o
          have htb : Hid (([0, t 1, t 2, t 3] : List Int)[k3 + 1]? = some tp) := Lib.hid ((three_t t hk31).trans (congrArg some htp'))
          rw [htp'] at hend
          clear htp'
          refine wp_skip ?_
          refine then_normal ?_
          refine wp_seq ?_
          refine wp_block ?_
          refine wp_seq ?_
          refine wp_region_N [(0, 1), (1, 1), (2, 1)] (by kernel_rfl) ?_
          refine wpS_index (E := elemI) (i := 0) (d := some 136) rfl (by rfl) rfl rfl rfl (rowAt_src (Mem.src HM126.out 2 rfl hp5.out)) (three hk31) rfl ?_
          intro eb128 eo129 hc130
          simp only [Act.put, List.setIfInBounds_toArray, List.set_cons_succ, List.set_cons_zero]
          refine wpS_load1 (i := 1) (d := some 137) (u := .int .i64 ((k3 + 1 : Nat) : Int)) rfl (by rfl) rfl rfl (hc130 0 _ rfl) Try.underlying3 rfl rfl ?_
          simp only [Act.put, List.setIfInBounds_toArray, List.set_cons_succ, List.set_cons_zero]
          refine wpS_this [2] rfl (by kernel_rfl) (by simp only [pickL, nthL, List.cons_append, List.nil_append]; rfl) ?_
          repeat (go_big_quiet_step (fail))
          refine wpQuiet_nil ?_
          refine wpS_nil ?_
          refine then_normal ?_
          refine wp_seq ?_
          obtain ⟨kr, hkr'⟩ : ∃ x, knowsR ⟨T.self, o, T.h, T.k⟩ ((k3 + 1 : Nat) : Int) = x := ⟨_, rfl⟩
          have lkr' := knowsR_len (S := ⟨T.self, o, T.h, T.k⟩) hz5.out ((k3 + 1 : Nat) : Int)
          rw [hkr'] at lkr'
          have lkr := Lib.hid lkr'
          clear lkr'
          obtain ⟨kb, hkb'⟩ := bool_letter (knowsB ⟨T.self, o, T.h, T.k⟩ ((k3 + 1 : Nat) : Int))
          rw [hkb', hkr'] at hq'
          rw [hq'.2.2, ← hq'.1] at hend
          obtain ⟨q3, hq3'⟩ := nat_letter (dr.length / 3)
          have hil : i = dr.length := by have := hge2.out; omega
          rw [hil, hq3'] at hend
          have hqi : Hid (((dr.length : Nat) : Int) / 3 = (q3 : Int)) := Lib.hid (by rw [← hq3']; omega)
          have hq13 : q3 ≤ 13 := by omega
          clear hq3' hq' hil
          have hkr := Lib.hid hkr'
          clear hkr'
          have hkb := Lib.hid hkb'
          clear hkb'
          have hend := Lib.hid hend
          refine wp_region_N [(0, 1), (1, 1), (2, 3), (3, 1), (4, 1), (5, 1), (6, 3), (7, 3), (8, 1)] (by kernel_rfl) ?_
          refine wpS_this [0, 1] rfl (by kernel_rfl) (by simp only [pickL, nthL, List.cons_append, List.nil_append]; rfl) ?_
          repeat (go_big_quiet_step (fail))
          refine wpQuiet_nil ?_
          refine wpS_doesU2 (i := 2) (d := some 141) (rem := [_, _]) rfl (by rfl) rfl Try.call16 (gknows_d d ⟨T.self, o, T.h, T.k⟩ z R5 hz5.out ((k3 + 1 : Nat) : Int)) rfl rfl HM126.out [0, 1] rfl covS_nil (fun _ => rfl) rfl ?_
          rintro u133 W132 hm131 -
          obtain ⟨pk, ck, rfl, hm131q⟩ := Mem.known hkr.out hkb.out hm131
          clear hm131
          have HM134 := Lib.hid hm131q
          clear hm131q
          simp only [Act.put, List.setIfInBounds_toArray, List.set_cons_succ, List.set_cons_zero]
          refine wpS_this [3, 4, 5] rfl (by kernel_rfl) (by simp only [pickL, nthL, List.cons_append, List.nil_append]; rfl) ?_
          repeat (go_big_quiet_step (fail))
          refine wpQuiet_nil ?_
          refine wpS_alloc (i := 6) (dd := 21) (z := rgV noR (.slice none 0 0)) (cs := (rgC noR (.slice none 0 0)).toArray) rfl (by rfl) rfl (by kernel_rfl) rfl HM134.out covS_nil rfl ?_
          rintro b137 W136 hm135 -
          have HM138 := Lib.hid hm135
          clear hm135
          simp only [Act.put, List.setIfInBounds_toArray, List.set_cons_succ, List.set_cons_zero]
          refine wpS_storeA (i := 7) (L2 := [_, _, _, _, _]) (cs' := rgC (kr) (.slice pk kr.p.2.2.length ck)) rfl (by rfl) rfl rfl rfl (by kernel_rfl) (rgC_one _ _ _) HM138.out 0 rfl rfl (by kernel_rfl) (by kernel_rfl) covS_nil rfl ?_
          rintro W140 hm139 -
          have HM141 := Lib.hid hm139
          clear hm139
          refine wpS_this [8] rfl (by kernel_rfl) (by simp only [pickL, nthL, List.cons_append, List.nil_append]; rfl) ?_
          repeat (go_big_quiet_step (fail))
          refine wpQuiet_nil ?_
          refine wpS_nil ?_
          refine then_normal ?_
          refine wp_seq ?_
          refine wp_region_N [(0, 1), (1, 1), (2, 1), (3, 1)] (by kernel_rfl) ?_
          refine wpS_this [0, 1] rfl (by kernel_rfl) (by simp only [pickL, nthL, List.cons_append, List.nil_append]; rfl) ?_
          repeat (go_big_quiet_step (fail))
          refine wpQuiet_nil ?_
          refine wpS_this [2] rfl (by kernel_rfl) (by simp only [pickL, nthL, List.cons_append, List.nil_append]; rfl) ?_
          repeat (go_big_quiet_step (fail))
          refine wpQuiet_nil ?_
          rw [hqi.out]
          refine wpS_this [3] rfl (by kernel_rfl) (by simp only [pickL, nthL, List.cons_append, List.nil_append]; rfl) ?_
          repeat (go_big_quiet_step (fail))
          refine wpQuiet_nil ?_
          refine wpS_nil ?_
          refine then_normal ?_
          refine wp_seq ?_
          rcases (show kb = false ∨ (kb = true ∧ belowR r kr = true) ∨ (kb = true ∧ belowR r kr = false) from by cases kb <;> cases belowR r kr <;> simp) with rfl | ⟨rfl, hb3'⟩ | ⟨rfl, hb3'⟩
          · have ht2 : (q3 : Int) ≤ tp ∧ tp ≤ (q3 : Int) + 1 := hend.out.2 rfl
            obtain ⟨ht3, ht4⟩ := ht2
            have g34 : decide (tp < (q3 : Int)) = false := decide_eq_false (by omega)
            have g34' : decide ((q3 : Int) + 1 < tp) = false := decide_eq_false (by omega)
            refine wp_region_N [(0, 1), (1, 1), (2, 1), (3, 1), (4, 3), (5, 1)] (by kernel_rfl) ?_
            refine wpS_this [0, 1] rfl (by kernel_rfl) (by simp only [pickL, nthL, List.cons_append, List.nil_append]; rfl) ?_
            repeat (go_big_quiet_step (fail))
            refine wpQuiet_nil ?_
            refine wpS_skip (i := 2) (d := some 149) rfl (by rfl) rfl ?_
            simp only [Act.put, List.setIfInBounds_toArray, List.set_cons_succ, List.set_cons_zero]
            refine wpS_skip (i := 3) (d := some 150) rfl (by rfl) rfl ?_
            simp only [Act.put, List.setIfInBounds_toArray, List.set_cons_succ, List.set_cons_zero]
            refine wpS_skip (i := 4) (d := some 151) rfl (by rfl) rfl ?_
            simp only [Act.put, List.setIfInBounds_toArray, List.set_cons_succ, List.set_cons_zero]
            refine wpS_this [5] rfl (by kernel_rfl) (by simp only [pickL, nthL, List.cons_append, List.nil_append]; rfl) ?_
            repeat (go_big_quiet_step (fail))
            refine wpQuiet_nil ?_
            refine wpS_nil ?_
            refine then_normal ?_
            refine wp_cond_false rfl ?_
            refine wp_seq ?_
            refine wp_region_N [(0, 1), (1, 1), (2, 1), (3, 1), (4, 1), (5, 1), (6, 1), (7, 1), (8, 1), (9, 1), (10, 1), (11, 1), (12, 1)] (by kernel_rfl) ?_
            refine wpS_this [0] rfl (by kernel_rfl) (by simp only [pickL, nthL, List.cons_append, List.nil_append]; rfl) ?_
            repeat (go_big_quiet_step (fail))
            refine wpQuiet_nil ?_
            refine wpS_addrArr (i := 1) (d := some 158) (b := tb) (j := (k3 + 1)) is4 rfl (by rfl) rfl rfl rfl (by omega) rfl ?_
            simp only [Act.put, List.setIfInBounds_toArray, List.set_cons_succ, List.set_cons_zero]
            refine wpS_loadEl (i := 2) (d := some 159) (y := tp) rfl (by rfl) rfl rfl (HM141.out.arr 5 rfl (htb.out)) rfl ?_
            simp only [Act.put, List.setIfInBounds_toArray, List.set_cons_succ, List.set_cons_zero]
            refine wpS_this [3, 4, 5, 6] rfl (by kernel_rfl) (by simp only [pickL, nthL, List.cons_append, List.nil_append]; rfl) ?_
            repeat (go_big_quiet_step (fail))
            refine wpQuiet_nil ?_
            refine wpS_addrArr (i := 7) (d := some 164) (b := tb) (j := (k3 + 1)) is4 rfl (by rfl) rfl rfl rfl (by omega) rfl ?_
            simp only [Act.put, List.setIfInBounds_toArray, List.set_cons_succ, List.set_cons_zero]
            refine wpS_loadEl (i := 8) (d := some 165) (y := tp) rfl (by rfl) rfl rfl (HM141.out.arr 5 rfl (htb.out)) rfl ?_
            simp only [Act.put, List.setIfInBounds_toArray, List.set_cons_succ, List.set_cons_zero]
            refine wpS_this [9, 10, 11, 12] rfl (by kernel_rfl) (by simp only [pickL, nthL, List.cons_append, List.nil_append]; rfl) ?_
            repeat (go_big_quiet_step (fail))
            refine wpQuiet_nil ?_
            refine wpS_nil ?_
            refine then_normal ?_
            refine wp_cond_false rfl ?_
            refine wp_skip ?_
            refine block_normal ?_
            refine then_normal ?_
            refine wp_region_N [(0, 1), (1, 1)] (by kernel_rfl) ?_
            refine wpS_this [0, 1] rfl (by kernel_rfl) (by simp only [pickL, nthL, List.cons_append, List.nil_append]; rfl) ?_
            repeat (go_big_quiet_step (fail))
            refine wpQuiet_nil ?_
            refine wpS_nil ?_
            refine then_normal ?_
            refine ⟨by kernel_rfl, ?_⟩
            exact ⟨3 - (k3 + 1), by omega, k3 + 1, rfl, rfl, hk31, (Mem.only (M := [_, _, _, _]) HM141.out [2, 3, 2, 2] rfl)⟩
          · have ht2 : tp = 0 := hend.out.1 (by rw [hb3']; rfl)
            subst ht2
            have hb3 := Lib.hid hb3'
            clear hb3'
            refine wp_region_N [(0, 1), (1, 1), (2, 1), (3, 1), (4, 3), (5, 1)] (by kernel_rfl) ?_
            refine wpS_this [0, 1] rfl (by kernel_rfl) (by simp only [pickL, nthL, List.cons_append, List.nil_append]; rfl) ?_
            repeat (go_big_quiet_step (fail))
            refine wpQuiet_nil ?_
            refine wpS_loadA (i := 2) (d := some 149) (cells := rgC (r) (.slice pr r.p.2.2.length cr)) rfl (by rfl) rfl rfl (HM141.out.sub 4 rfl (fun k u h => by rw [Nat.zero_add]; exact h)) Try.underlying37 rfl (by kernel_rfl) rfl ?_
            simp only [Act.put, List.setIfInBounds_toArray, List.set_cons_succ, List.set_cons_zero]
            refine wpS_loadA (i := 3) (d := some 150) (cells := rgC (kr) (.slice pk kr.p.2.2.length ck)) rfl (by rfl) rfl rfl (HM141.out.sub 0 rfl (fun k u h => by rw [Nat.zero_add]; exact h)) Try.underlying37 rfl (by kernel_rfl) rfl ?_
            simp only [Act.put, List.setIfInBounds_toArray, List.set_cons_succ, List.set_cons_zero]
            refine wpS_does2 (i := 4) (d := some 151) (rem := [_, _, _, _]) (out := [_, _, _, _, _, _]) rfl (by rfl) rfl Try.call21 (Does.ofList (gbelow_d (listT [_, _]) _ r (srcL 0 rfl (hg5.out.reads hr.out)) lr.out _ kr (srcL 1 rfl rowT_reads) lkr.out)) rfl rfl HM141.out [3, 1] rfl covS_nil rfl rfl ?_
            rintro W143 hm142 -
            rw [hb3.out]
            have HM144 := Lib.hid hm142
            clear hm142
            simp only [Act.put, List.setIfInBounds_toArray, List.set_cons_succ, List.set_cons_zero]
            refine wpS_this [5] rfl (by kernel_rfl) (by simp only [pickL, nthL, List.cons_append, List.nil_append]; rfl) ?_
            repeat (go_big_quiet_step (fail))
            refine wpQuiet_nil ?_
            refine wpS_nil ?_
            refine then_normal ?_
            refine wp_cond_true rfl ?_
            refine wp_seq ?_
            refine wp_region_N [(0, 1), (1, 1), (2, 1), (3, 1)] (by kernel_rfl) ?_
            refine wpS_this [0] rfl (by kernel_rfl) (by simp only [pickL, nthL, List.cons_append, List.nil_append]; rfl) ?_
            repeat (go_big_quiet_step (fail))
            refine wpQuiet_nil ?_
            refine wpS_addrArr (i := 1) (d := some 154) (b := tb) (j := (k3 + 1)) is4 rfl (by rfl) rfl rfl rfl (by omega) rfl ?_
            simp only [Act.put, List.setIfInBounds_toArray, List.set_cons_succ, List.set_cons_zero]
            refine wpS_loadEl (i := 2) (d := some 155) (y := 0) rfl (by rfl) rfl rfl (HM144.out.arr 5 rfl (htb.out)) rfl ?_
            simp only [Act.put, List.setIfInBounds_toArray, List.set_cons_succ, List.set_cons_zero]
            refine wpS_this [3] rfl (by kernel_rfl) (by simp only [pickL, nthL, List.cons_append, List.nil_append]; rfl) ?_
            repeat (go_big_quiet_step (fail))
            refine wpQuiet_nil ?_
            refine wpS_nil ?_
            refine then_normal ?_
            refine wp_cond_false rfl ?_
            refine wp_skip ?_
            refine block_normal ?_
            refine then_normal ?_
            refine wp_region_N [(0, 1), (1, 1)] (by kernel_rfl) ?_
            refine wpS_this [0, 1] rfl (by kernel_rfl) (by simp only [pickL, nthL, List.cons_append, List.nil_append]; rfl) ?_
            repeat (go_big_quiet_step (fail))
            refine wpQuiet_nil ?_
            refine wpS_nil ?_
            refine then_normal ?_
            refine ⟨by kernel_rfl, ?_⟩
            exact ⟨3 - (k3 + 1), by omega, k3 + 1, rfl, rfl, hk31, (Mem.only (M := [_, _, _, _]) HM144.out [3, 3, 0, 2] rfl)⟩
          · have ht2 : (q3 : Int) ≤ tp ∧ tp ≤ (q3 : Int) + 1 := hend.out.2 (by rw [hb3']; rfl)
            obtain ⟨ht3, ht4⟩ := ht2
            have g34 : decide (tp < (q3 : Int)) = false := decide_eq_false (by omega)
            have g34' : decide ((q3 : Int) + 1 < tp) = false := decide_eq_false (by omega)
            have hb3 := Lib.hid hb3'
            clear hb3'
            refine wp_region_N [(0, 1), (1, 1), (2, 1), (3, 1), (4, 3), (5, 1)] (by kernel_rfl) ?_
            refine wpS_this [0, 1] rfl (by kernel_rfl) (by simp only [pickL, nthL, List.cons_append, List.nil_append]; rfl) ?_
            repeat (go_big_quiet_step (fail))
            refine wpQuiet_nil ?_
            refine wpS_loadA (i := 2) (d := some 149) (cells := rgC (r) (.slice pr r.p.2.2.length cr)) rfl (by rfl) rfl rfl (HM141.out.sub 4 rfl (fun k u h => by rw [Nat.zero_add]; exact h)) Try.underlying37 rfl (by kernel_rfl) rfl ?_
            simp only [Act.put, List.setIfInBounds_toArray, List.set_cons_succ, List.set_cons_zero]
            refine wpS_loadA (i := 3) (d := some 150) (cells := rgC (kr) (.slice pk kr.p.2.2.length ck)) rfl (by rfl) rfl rfl (HM141.out.sub 0 rfl (fun k u h => by rw [Nat.zero_add]; exact h)) Try.underlying37 rfl (by kernel_rfl) rfl ?_
            simp only [Act.put, List.setIfInBounds_toArray, List.set_cons_succ, List.set_cons_zero]
            refine wpS_does2 (i := 4) (d := some 151) (rem := [_, _, _, _]) (out := [_, _, _, _, _, _]) rfl (by rfl) rfl Try.call21 (Does.ofList (gbelow_d (listT [_, _]) _ r (srcL 0 rfl (hg5.out.reads hr.out)) lr.out _ kr (srcL 1 rfl rowT_reads) lkr.out)) rfl rfl HM141.out [3, 1] rfl covS_nil rfl rfl ?_
            rintro W146 hm145 -
            rw [hb3.out]
            have HM147 := Lib.hid hm145
            clear hm145
            simp only [Act.put, List.setIfInBounds_toArray, List.set_cons_succ, List.set_cons_zero]
            refine wpS_this [5] rfl (by kernel_rfl) (by simp only [pickL, nthL, List.cons_append, List.nil_append]; rfl) ?_
            repeat (go_big_quiet_step (fail))
            refine wpQuiet_nil ?_
            refine wpS_nil ?_
            refine then_normal ?_
            refine wp_cond_false rfl ?_
            refine wp_seq ?_
            refine wp_region_N [(0, 1), (1, 1), (2, 1), (3, 1), (4, 1), (5, 1), (6, 1), (7, 1), (8, 1), (9, 1), (10, 1), (11, 1), (12, 1)] (by kernel_rfl) ?_
            refine wpS_this [0] rfl (by kernel_rfl) (by simp only [pickL, nthL, List.cons_append, List.nil_append]; rfl) ?_
            repeat (go_big_quiet_step (fail))
            refine wpQuiet_nil ?_
            refine wpS_addrArr (i := 1) (d := some 158) (b := tb) (j := (k3 + 1)) is4 rfl (by rfl) rfl rfl rfl (by omega) rfl ?_
            simp only [Act.put, List.setIfInBounds_toArray, List.set_cons_succ, List.set_cons_zero]
            refine wpS_loadEl (i := 2) (d := some 159) (y := tp) rfl (by rfl) rfl rfl (HM147.out.arr 5 rfl (htb.out)) rfl ?_
            simp only [Act.put, List.setIfInBounds_toArray, List.set_cons_succ, List.set_cons_zero]
            refine wpS_this [3, 4, 5, 6] rfl (by kernel_rfl) (by simp only [pickL, nthL, List.cons_append, List.nil_append]; rfl) ?_
            repeat (go_big_quiet_step (fail))
            refine wpQuiet_nil ?_
            refine wpS_addrArr (i := 7) (d := some 164) (b := tb) (j := (k3 + 1)) is4 rfl (by rfl) rfl rfl rfl (by omega) rfl ?_
            simp only [Act.put, List.setIfInBounds_toArray, List.set_cons_succ, List.set_cons_zero]
            refine wpS_loadEl (i := 8) (d := some 165) (y := tp) rfl (by rfl) rfl rfl (HM147.out.arr 5 rfl (htb.out)) rfl ?_
            simp only [Act.put, List.setIfInBounds_toArray, List.set_cons_succ, List.set_cons_zero]
            refine wpS_this [9, 10, 11, 12] rfl (by kernel_rfl) (by simp only [pickL, nthL, List.cons_append, List.nil_append]; rfl) ?_
            repeat (go_big_quiet_step (fail))
            refine wpQuiet_nil ?_
            refine wpS_nil ?_
            refine then_normal ?_
            refine wp_cond_false rfl ?_
            refine wp_skip ?_
            refine block_normal ?_
            refine then_normal ?_
            refine wp_region_N [(0, 1), (1, 1)] (by kernel_rfl) ?_
            refine wpS_this [0, 1] rfl (by kernel_rfl) (by simp only [pickL, nthL, List.cons_append, List.nil_append]; rfl) ?_
            repeat (go_big_quiet_step (fail))
            refine wpQuiet_nil ?_
            refine wpS_nil ?_
            refine then_normal ?_
            refine ⟨by kernel_rfl, ?_⟩
            exact ⟨3 - (k3 + 1), by omega, k3 + 1, rfl, rfl, hk31, (Mem.only (M := [_, _, _, _]) HM147.out [3, 3, 0, 2] rfl)⟩
        · clear h127
          refine wp_exit ?_
          refine then_exit (then_exit (block_exit ?_))
          refine then_normal ?_
          refine wp_seq ?_
          refine wp_region_N [(0, 3), (1, 1)] (by kernel_rfl) ?_
          refine wpS_does0 (i := 0) (d := some 171) (rem := [_, _, _, _]) (out := [_, _, _, _]) rfl (by rfl) rfl Try.call9 (awake_d)  HM126.out [] rfl covS_nil rfl rfl ?_
          rintro W149 hm148 -
          have HM150 := Lib.hid hm148
          clear hm148
          simp only [Act.put, List.setIfInBounds_toArray, List.set_cons_succ, List.set_cons_zero]
          refine wpS_this [1] rfl (by kernel_rfl) (by simp only [pickL, nthL, List.cons_append, List.nil_append]; rfl) ?_
          repeat (go_big_quiet_step (fail))
          refine wpQuiet_nil ?_
          refine wpS_nil ?_
          refine then_normal ?_
          refine wp_ret ?_
          refine bodyPost_ret (results_tmp rfl _ _ _) rfl ?_
          exact does_ret (Mem.only (M := [_]) (Grown.mem hg5.out (Mem.only (M := [_]) HM150.out [2] rfl)) [0] rfl) rfl rfl
  · have hl := Lib.hid hl'
    clear hl'
    have hfw : Hid (hvy 0 [(⟨r, pr, r.p.2.2.length, cr⟩ : Hc)] = 0) := Lib.hid hfw'
    clear hfw'
    have lr : Hid (r.p.2.2.length ≤ 1000) := Lib.hid (by have h5 : r.p.2.2.length ≤ 100 := hw; omega)
    clear hw
    have g40 : decide ((40 : Int) < ((dr.length : Nat) : Int)) = false := decide_eq_false (by omega)
    have g40' : decide (40 < dr.length) = false := decide_eq_false (by omega)
    have hmy2 := Lib.hid hmy
    clear hmy
    refine wp_region_N [(0, 1), (1, 3), (2, 1), (3, 1), (4, 1), (5, 3), (6, 3), (7, 1), (8, 1), (9, 1), (10, 1), (11, 1), (12, 1), (13, 1), (14, 1), (15, 1), (16, 3), (17, 1), (18, 1)] (by kernel_rfl) ?_
    refine wpS_this [0] rfl (by kernel_rfl) (by simp only [pickL, nthL, List.cons_append, List.nil_append]; rfl) ?_
    repeat (go_big_quiet_step (fail))
    refine wpQuiet_nil ?_
    refine wpS_does1 (i := 1) (d := some 25) (rem := [_]) (out := [_, _]) rfl (by rfl) rfl Try.call8 (light_d (oldT W0) _ l hR.out) rfl HM4.out [1] rfl covS_nil rfl rfl ?_
    rintro W152 hm151 -
    rw [hl.out]
    have HM153 := Lib.hid hm151
    clear hm151
    simp only [Act.put, List.setIfInBounds_toArray, List.set_cons_succ, List.set_cons_zero]
    refine wpS_this [2, 3] rfl (by kernel_rfl) (by simp only [pickL, nthL, List.cons_append, List.nil_append]; rfl) ?_
    repeat (go_big_quiet_step (fail))
    refine wpQuiet_nil ?_
    refine wpS_loadA (i := 4) (d := some 28) (cells := rgC (r) (.slice pr r.p.2.2.length cr)) rfl (by rfl) rfl rfl (HM153.out.sub 1 rfl (fun k u h => by rw [Nat.zero_add]; exact h)) Try.underlying37 rfl (by kernel_rfl) rfl ?_
    simp only [Act.put, List.setIfInBounds_toArray, List.set_cons_succ, List.set_cons_zero]
    refine wpS_buildN elemR (i := 5) (dd := 29) (n := 1) (xs := [⟨r, pr, r.p.2.2.length, cr⟩]) (cs := (rgC r (.slice pr r.p.2.2.length cr) ++ []).toArray) rfl (by rfl) (fun _ => by kernel_rfl) rfl rfl HM153.out covS_nil rfl ?_
    rintro b156 W157 hm158 -
    have HM159 := Lib.hid hm158
    clear hm158
    simp only [Act.put, List.setIfInBounds_toArray, List.set_cons_succ, List.set_cons_zero]
    refine wpS_does1 (i := 6) (d := some 30) (rem := [_, _]) (out := [_, _, _]) rfl (by rfl) rfl Try.call19 (heavy_d (rowT elemR _ _) _ _ rowOwnE (Nat.le_of_ble_eq_true rfl)) rfl HM159.out [0] rfl covS_nil rfl rfl ?_
    rintro W161 hm160 -
    rw [hfw.out]
    have HM162 := Lib.hid hm160
    clear hm160
    simp only [Act.put, List.setIfInBounds_toArray, List.set_cons_succ, List.set_cons_zero]
    refine wpS_this [7, 8, 9, 10, 11, 12, 13, 14] rfl (by kernel_rfl) (by simp only [pickL, nthL, List.cons_append, List.nil_append]; rfl) ?_
    repeat (go_big_quiet_step (fail))
    refine wpQuiet_nil ?_
    refine wpS_loadA (i := 15) (d := some 39) (cells := rgC (r) (.slice pr r.p.2.2.length cr)) rfl (by rfl) rfl rfl (HM162.out.sub 2 rfl (fun k u h => by rw [Nat.zero_add]; exact h)) Try.underlying37 rfl (by kernel_rfl) rfl ?_
    simp only [Act.put, List.setIfInBounds_toArray, List.set_cons_succ, List.set_cons_zero]
    refine wpS_does1 (i := 16) (d := some 40) (rem := [_, _]) (out := [_, _, _]) rfl (by rfl) rfl Try.call20 (gmay_d (oldT W0) _ r hr.out lr.out) rfl HM162.out [1] rfl covS_nil rfl rfl ?_
    rintro W164 hm163 -
    rw [hmy2.out]
    have HM165 := Lib.hid hm163
    clear hm163
    simp only [Act.put, List.setIfInBounds_toArray, List.set_cons_succ, List.set_cons_zero]
    refine wpS_this [17, 18] rfl (by kernel_rfl) (by simp only [pickL, nthL, List.cons_append, List.nil_append]; rfl) ?_
    repeat (go_big_quiet_step (fail))
    refine wpQuiet_nil ?_
    refine wpS_nil ?_
    refine then_normal ?_
    refine wp_cond_true rfl ?_
    refine wp_seq ?_
    refine wp_region_N [(0, 3), (1, 1)] (by kernel_rfl) ?_
    refine wpS_does0 (i := 0) (d := some 43) (rem := [_, _, _]) (out := [_, _, _]) rfl (by rfl) rfl Try.call9 (awake_d)  HM165.out [] rfl covS_nil rfl rfl ?_
    rintro W167 hm166 -
    have HM168 := Lib.hid hm166
    clear hm166
    simp only [Act.put, List.setIfInBounds_toArray, List.set_cons_succ, List.set_cons_zero]
    refine wpS_this [1] rfl (by kernel_rfl) (by simp only [pickL, nthL, List.cons_append, List.nil_append]; rfl) ?_
    repeat (go_big_quiet_step (fail))
    refine wpQuiet_nil ?_
    refine wpS_nil ?_
    refine then_normal ?_
    refine wp_ret ?_
    refine then_ret ?_
    refine bodyPost_ret (results_tmp rfl _ _ _) rfl ?_
    exact does_ret (Mem.only (M := [_]) HM168.out [0] rfl) rfl rfl
  · have hl := Lib.hid hl'
    clear hl'
    have hfw : Hid (hvy 0 [(⟨r, pr, r.p.2.2.length, cr⟩ : Hc)] = 0) := Lib.hid hfw'
    clear hfw'
    have lr : Hid (r.p.2.2.length ≤ 1000) := Lib.hid (by have h5 : r.p.2.2.length ≤ 100 := hw; omega)
    clear hw
    have g40 : decide ((40 : Int) < ((dr.length : Nat) : Int)) = true := decide_eq_true (by omega)
    have g40' : decide (40 < dr.length) = true := decide_eq_true (by omega)
    refine wp_region_N [(0, 1), (1, 3), (2, 1), (3, 1), (4, 1), (5, 3), (6, 3), (7, 1), (8, 1), (9, 1), (10, 1), (11, 1), (12, 1), (13, 1), (14, 1), (15, 1), (16, 3), (17, 1), (18, 1)] (by kernel_rfl) ?_
    refine wpS_this [0] rfl (by kernel_rfl) (by simp only [pickL, nthL, List.cons_append, List.nil_append]; rfl) ?_
    repeat (go_big_quiet_step (fail))
    refine wpQuiet_nil ?_
    refine wpS_does1 (i := 1) (d := some 25) (rem := [_]) (out := [_, _]) rfl (by rfl) rfl Try.call8 (light_d (oldT W0) _ l hR.out) rfl HM4.out [1] rfl covS_nil rfl rfl ?_
    rintro W170 hm169 -
    rw [hl.out]
    have HM171 := Lib.hid hm169
    clear hm169
    simp only [Act.put, List.setIfInBounds_toArray, List.set_cons_succ, List.set_cons_zero]
    refine wpS_this [2, 3] rfl (by kernel_rfl) (by simp only [pickL, nthL, List.cons_append, List.nil_append]; rfl) ?_
    repeat (go_big_quiet_step (fail))
    refine wpQuiet_nil ?_
    refine wpS_loadA (i := 4) (d := some 28) (cells := rgC (r) (.slice pr r.p.2.2.length cr)) rfl (by rfl) rfl rfl (HM171.out.sub 1 rfl (fun k u h => by rw [Nat.zero_add]; exact h)) Try.underlying37 rfl (by kernel_rfl) rfl ?_
    simp only [Act.put, List.setIfInBounds_toArray, List.set_cons_succ, List.set_cons_zero]
    refine wpS_buildN elemR (i := 5) (dd := 29) (n := 1) (xs := [⟨r, pr, r.p.2.2.length, cr⟩]) (cs := (rgC r (.slice pr r.p.2.2.length cr) ++ []).toArray) rfl (by rfl) (fun _ => by kernel_rfl) rfl rfl HM171.out covS_nil rfl ?_
    rintro b174 W175 hm176 -
    have HM177 := Lib.hid hm176
    clear hm176
    simp only [Act.put, List.setIfInBounds_toArray, List.set_cons_succ, List.set_cons_zero]
    refine wpS_does1 (i := 6) (d := some 30) (rem := [_, _]) (out := [_, _, _]) rfl (by rfl) rfl Try.call19 (heavy_d (rowT elemR _ _) _ _ rowOwnE (Nat.le_of_ble_eq_true rfl)) rfl HM177.out [0] rfl covS_nil rfl rfl ?_
    rintro W179 hm178 -
    rw [hfw.out]
    have HM180 := Lib.hid hm178
    clear hm178
    simp only [Act.put, List.setIfInBounds_toArray, List.set_cons_succ, List.set_cons_zero]
    refine wpS_this [7, 8, 9, 10, 11, 12, 13, 14] rfl (by kernel_rfl) (by simp only [pickL, nthL, List.cons_append, List.nil_append]; rfl) ?_
    repeat (go_big_quiet_step (fail))
    refine wpQuiet_nil ?_
    refine wpS_skip (i := 15) (d := some 39) rfl (by rfl) rfl ?_
    simp only [Act.put, List.setIfInBounds_toArray, List.set_cons_succ, List.set_cons_zero]
    refine wpS_skip (i := 16) (d := some 40) rfl (by rfl) rfl ?_
    simp only [Act.put, List.setIfInBounds_toArray, List.set_cons_succ, List.set_cons_zero]
    refine wpS_this [17, 18] rfl (by kernel_rfl) (by simp only [pickL, nthL, List.cons_append, List.nil_append]; rfl) ?_
    repeat (go_big_quiet_step (fail))
    refine wpQuiet_nil ?_
    refine wpS_nil ?_
    refine then_normal ?_
    refine wp_cond_true rfl ?_
    refine wp_seq ?_
    refine wp_region_N [(0, 3), (1, 1)] (by kernel_rfl) ?_
    refine wpS_does0 (i := 0) (d := some 43) (rem := [_, _, _]) (out := [_, _, _]) rfl (by rfl) rfl Try.call9 (awake_d)  HM180.out [] rfl covS_nil rfl rfl ?_
    rintro W182 hm181 -
    have HM183 := Lib.hid hm181
    clear hm181
    simp only [Act.put, List.setIfInBounds_toArray, List.set_cons_succ, List.set_cons_zero]
    refine wpS_this [1] rfl (by kernel_rfl) (by simp only [pickL, nthL, List.cons_append, List.nil_append]; rfl) ?_
    repeat (go_big_quiet_step (fail))
    refine wpQuiet_nil ?_
    refine wpS_nil ?_
    refine then_normal ?_
    refine wp_ret ?_
    refine then_ret ?_
    refine bodyPost_ret (results_tmp rfl _ _ _) rfl ?_
    exact does_ret (Mem.only (M := [_]) HM183.out [1] rfl) rfl rfl
  · have hl := Lib.hid hl'
    clear hl'
    obtain ⟨m, hfm'⟩ := int_letter (hvy 0 [(⟨r, pr, r.p.2.2.length, cr⟩ : Hc)])
    rw [hfm'] at hfw'
    have gm : decide (0 < m) = true := decide_eq_true hfw'
    have hfw := Lib.hid hfm'
    clear hfm' hfw'
    refine wp_region_N [(0, 1), (1, 3), (2, 1), (3, 1), (4, 1), (5, 3), (6, 3), (7, 1), (8, 1), (9, 1), (10, 1), (11, 1), (12, 1), (13, 1), (14, 1), (15, 1), (16, 3), (17, 1), (18, 1)] (by kernel_rfl) ?_
    refine wpS_this [0] rfl (by kernel_rfl) (by simp only [pickL, nthL, List.cons_append, List.nil_append]; rfl) ?_
    repeat (go_big_quiet_step (fail))
    refine wpQuiet_nil ?_
    refine wpS_does1 (i := 1) (d := some 25) (rem := [_]) (out := [_, _]) rfl (by rfl) rfl Try.call8 (light_d (oldT W0) _ l hR.out) rfl HM4.out [1] rfl covS_nil rfl rfl ?_
    rintro W185 hm184 -
    rw [hl.out]
    have HM186 := Lib.hid hm184
    clear hm184
    simp only [Act.put, List.setIfInBounds_toArray, List.set_cons_succ, List.set_cons_zero]
    refine wpS_this [2, 3] rfl (by kernel_rfl) (by simp only [pickL, nthL, List.cons_append, List.nil_append]; rfl) ?_
    repeat (go_big_quiet_step (fail))
    refine wpQuiet_nil ?_
    refine wpS_loadA (i := 4) (d := some 28) (cells := rgC (r) (.slice pr r.p.2.2.length cr)) rfl (by rfl) rfl rfl (HM186.out.sub 1 rfl (fun k u h => by rw [Nat.zero_add]; exact h)) Try.underlying37 rfl (by kernel_rfl) rfl ?_
    simp only [Act.put, List.setIfInBounds_toArray, List.set_cons_succ, List.set_cons_zero]
    refine wpS_buildN elemR (i := 5) (dd := 29) (n := 1) (xs := [⟨r, pr, r.p.2.2.length, cr⟩]) (cs := (rgC r (.slice pr r.p.2.2.length cr) ++ []).toArray) rfl (by rfl) (fun _ => by kernel_rfl) rfl rfl HM186.out covS_nil rfl ?_
    rintro b189 W190 hm191 -
    have HM192 := Lib.hid hm191
    clear hm191
    simp only [Act.put, List.setIfInBounds_toArray, List.set_cons_succ, List.set_cons_zero]
    refine wpS_does1 (i := 6) (d := some 30) (rem := [_, _]) (out := [_, _, _]) rfl (by rfl) rfl Try.call19 (heavy_d (rowT elemR _ _) _ _ rowOwnE (Nat.le_of_ble_eq_true rfl)) rfl HM192.out [0] rfl covS_nil rfl rfl ?_
    rintro W194 hm193 -
    rw [hfw.out]
    have HM195 := Lib.hid hm193
    clear hm193
    simp only [Act.put, List.setIfInBounds_toArray, List.set_cons_succ, List.set_cons_zero]
    refine wpS_this [7, 8, 9, 10, 11, 12, 13, 14] rfl (by kernel_rfl) (by simp only [pickL, nthL, List.cons_append, List.nil_append]; rfl) ?_
    repeat (go_big_quiet_step (fail))
    refine wpQuiet_nil ?_
    refine wpS_skip (i := 15) (d := some 39) rfl (by rfl) rfl ?_
    simp only [Act.put, List.setIfInBounds_toArray, List.set_cons_succ, List.set_cons_zero]
    refine wpS_skip (i := 16) (d := some 40) rfl (by rfl) rfl ?_
    simp only [Act.put, List.setIfInBounds_toArray, List.set_cons_succ, List.set_cons_zero]
    refine wpS_this [17, 18] rfl (by kernel_rfl) (by simp only [pickL, nthL, List.cons_append, List.nil_append]; rfl) ?_
    repeat (go_big_quiet_step (fail))
    refine wpQuiet_nil ?_
    refine wpS_nil ?_
    refine then_normal ?_
    refine wp_cond_true rfl ?_
    refine wp_seq ?_
    refine wp_region_N [(0, 3), (1, 1)] (by kernel_rfl) ?_
    refine wpS_does0 (i := 0) (d := some 43) (rem := [_, _, _]) (out := [_, _, _]) rfl (by rfl) rfl Try.call9 (awake_d)  HM195.out [] rfl covS_nil rfl rfl ?_
    rintro W197 hm196 -
    have HM198 := Lib.hid hm196
    clear hm196
    simp only [Act.put, List.setIfInBounds_toArray, List.set_cons_succ, List.set_cons_zero]
    refine wpS_this [1] rfl (by kernel_rfl) (by simp only [pickL, nthL, List.cons_append, List.nil_append]; rfl) ?_
    repeat (go_big_quiet_step (fail))
    refine wpQuiet_nil ?_
    refine wpS_nil ?_
    refine then_normal ?_
    refine wp_ret ?_
    refine then_ret ?_
    refine bodyPost_ret (results_tmp rfl _ _ _) rfl ?_
    exact does_ret (Mem.only (M := [_]) HM198.out [1] rfl) rfl rfl

end Go.Proofs.Ytnkchmafofpimaa
