/- Rings: RingRises. -/
import Derived.Test.YtihhopoplcelfaaRgE
namespace Go.Proofs.Ytihhopoplcelfaa
open Go Go.RowKit Go.BigFrame

theorem rise_out {r : Rg} {n x : Int} (h : n < 0 ∨ 8 ≤ n) : riseR r n x = (noR, 1) := by
  unfold riseR
  rw [if_neg]
  rintro ⟨_, h2, _⟩
  have := of_decide_eq_true h2
  omega
theorem rise_ways (r : Rg) (n x : Int) (_hn : 0 ≤ n ∧ n < 8) : riseR r n x = (noR, 1) ∨ (x ≤ r.s n.toNat ∧ riseR r n x = (noR, 8)) ∨ (mayR r = true ∧ (1 ≤ x ∧ x ≤ 4) ∧ ¬ x ≤ r.s n.toNat ∧ riseR r n x = (⟨upd r.s n.toNat x, r.p, r.e⟩, 0)) := by
  rcases riseR_cases r n x with ⟨_, q⟩ | ⟨_, _, q⟩ | ⟨_, _, _, q⟩ | ⟨_, _, _, h, q⟩ | ⟨h1, _, h2, h3, q⟩
  · exact .inl q
  · exact .inl q
  · exact .inl q
  · exact .inr (.inl ⟨h, q⟩)
  · exact .inr (.inr ⟨h1, h2, h3, q⟩)
set_option maxHeartbeats 4000000 in
set_option maxRecDepth 100000 in
theorem rises_d (W0 : World) (va : Value) (a : Rg) (ha : SrcE elemI W0 va a.p.2.2) (n : Int) (x : Int)  : Does Try.prog 4 #[rgV a va, .int .i64 n, .int .i64 x] [oldT W0] (.bool true) [oldT W0] := by
  intro w H hp
  have HM0 := Lib.hid (mem_refl hp)
  clear hp
  obtain ⟨pa, ca, rfl⟩ := row_form ha
  go_enter Try.func4, Try.ntmps4
  refine wp_seq ?_
  refine wp_region_N [(0, 3), (1, 1)] (by kernel_rfl) ?_
  refine wpS_boxA (i := 0) (dd := 3) rfl (by rfl) rfl rfl HM0.out covS_nil rfl ?_
  rintro b3 W2 hm1 -
  have HM4 := Lib.hid hm1
  clear hm1
  simp only [Act.put, List.setIfInBounds_toArray, List.set_cons_succ, List.set_cons_zero]
  refine wpS_this [1] rfl (by kernel_rfl) (by simp only [pickL, nthL, List.cons_append, List.nil_append]; rfl) ?_
  repeat (go_big_quiet_step (fail))
  refine wpQuiet_nil ?_
  refine wpS_nil ?_
  refine then_normal ?_
  refine wp_seq ?_
  refine wp_seq ?_
  rcases hvy1 ⟨a, pa, a.p.2.2.length, ca⟩ with ⟨hw, hfw⟩ | ⟨hw, hfw⟩
  · replace hw : a.p.2.2.length ≤ 100 := hw
    replace hfw : Hid (hvy 0 [⟨a, pa, a.p.2.2.length, ca⟩] = 0) := Lib.hid hfw
    have la : a.p.2.2.length ≤ 1000 := by omega
    clear hw
    refine wp_region_N [(0, 1), (1, 3), (2, 3), (3, 1)] (by kernel_rfl) ?_
    refine wpS_loadA (i := 0) (d := some 12) (cells := rgC (a) (.slice pa a.p.2.2.length ca)) rfl (by rfl) rfl rfl (HM4.out.sub 0 rfl (fun k u h => by rw [Nat.zero_add]; exact h)) Try.underlying30 rfl (by kernel_rfl) rfl ?_
    simp only [Act.put, List.setIfInBounds_toArray, List.set_cons_succ, List.set_cons_zero]
    refine wpS_buildN elemR (i := 1) (dd := 13) (n := 1) (xs := [⟨a, pa, a.p.2.2.length, ca⟩]) (cs := (rgC a (.slice pa a.p.2.2.length ca) ++ []).toArray) rfl (by rfl) (fun _ => by kernel_rfl) rfl rfl HM4.out covS_nil rfl ?_
    rintro b7 W8 hm9 -
    have HM10 := Lib.hid hm9
    clear hm9
    simp only [Act.put, List.setIfInBounds_toArray, List.set_cons_succ, List.set_cons_zero]
    refine wpS_does1 (i := 2) (d := some 14) (rem := [_, _]) (out := [_, _, _]) rfl (by rfl) rfl Try.call8 (heavy_d (rowT elemR _ _) _ _ rowOwnE (Nat.le_of_ble_eq_true rfl)) rfl HM10.out [0] rfl covS_nil rfl rfl ?_
    rintro W12 hm11 -
    rw [hfw.out]
    have HM13 := Lib.hid hm11
    clear hm11
    simp only [Act.put, List.setIfInBounds_toArray, List.set_cons_succ, List.set_cons_zero]
    refine wpS_this [3] rfl (by kernel_rfl) (by simp only [pickL, nthL, List.cons_append, List.nil_append]; rfl) ?_
    repeat (go_big_quiet_step (fail))
    refine wpQuiet_nil ?_
    refine wpS_nil ?_
    refine then_normal ?_
    refine wp_cond_false rfl ?_
    refine wp_skip ?_
    refine then_normal ?_
    refine wp_seq ?_
    obtain ⟨f, fe, hf'⟩ := ringE_letters (riseR a n x)
    have hf := Lib.hid hf'
    clear hf'
    refine wp_region_N [(0, 1), (1, 1), (2, 1), (3, 3), (4, 1), (5, 1), (6, 1), (7, 3), (8, 3), (9, 1)] (by kernel_rfl) ?_
    refine wpS_loadA (i := 0) (d := some 18) (cells := rgC (a) (.slice pa a.p.2.2.length ca)) rfl (by rfl) rfl rfl (HM13.out.sub 1 rfl (fun k u h => by rw [Nat.zero_add]; exact h)) Try.underlying30 rfl (by kernel_rfl) rfl ?_
    simp only [Act.put, List.setIfInBounds_toArray, List.set_cons_succ, List.set_cons_zero]
    refine wpS_this [1, 2] rfl (by kernel_rfl) (by simp only [pickL, nthL, List.cons_append, List.nil_append]; rfl) ?_
    repeat (go_big_quiet_step (fail))
    refine wpQuiet_nil ?_
    refine wpS_doesU3 (i := 3) (d := some 21) (rem := [_, _]) rfl (by rfl) rfl Try.call15 (grise_d (oldT W0) _ a (srcOld ha) la n x f fe hf.out) rfl rfl rfl HM13.out [2] rfl covS_nil (fun _ => rfl) rfl ?_
    rintro u16 W15 hm14 -
    obtain ⟨pf, cf, rfl, hm14q⟩ := Mem.ringE rfl hm14
    clear hm14
    have HM17 := Lib.hid hm14q
    clear hm14q
    simp only [Act.put, List.setIfInBounds_toArray, List.set_cons_succ, List.set_cons_zero]
    refine wpS_this [4, 5, 6] rfl (by kernel_rfl) (by simp only [pickL, nthL, List.cons_append, List.nil_append]; rfl) ?_
    repeat (go_big_quiet_step (fail))
    refine wpQuiet_nil ?_
    refine wpS_alloc (i := 7) (dd := 7) (z := rgV noR (.slice none 0 0)) (cs := (rgC noR (.slice none 0 0)).toArray) rfl (by rfl) rfl (by kernel_rfl) rfl HM17.out covS_nil rfl ?_
    rintro b20 W19 hm18 -
    have HM21 := Lib.hid hm18
    clear hm18
    simp only [Act.put, List.setIfInBounds_toArray, List.set_cons_succ, List.set_cons_zero]
    refine wpS_storeA (i := 8) (L2 := [_, _, _, _]) (cs' := rgC (f) (.slice pf f.p.2.2.length cf)) rfl (by rfl) rfl rfl rfl (by kernel_rfl) (rgC_one _ _ _) HM21.out 0 rfl rfl (by kernel_rfl) (by kernel_rfl) covS_nil rfl ?_
    rintro W23 hm22 -
    have HM24 := Lib.hid hm22
    clear hm22
    refine wpS_this [9] rfl (by kernel_rfl) (by simp only [pickL, nthL, List.cons_append, List.nil_append]; rfl) ?_
    repeat (go_big_quiet_step (fail))
    refine wpQuiet_nil ?_
    refine wpS_nil ?_
    refine then_normal ?_
    refine wp_seq ?_
    refine wp_seq ?_
    rcases (show n < 0 ∨ (¬ n < 0 ∧ 8 ≤ n) ∨ (¬ n < 0 ∧ ¬ 8 ≤ n) from by omega) with h1 | ⟨h1, h2⟩ | ⟨h1, h2⟩
    · have g1 := decide_eq_true h1
      have hq : riseR a n x = (noR, 1) := rise_out (.inl h1)
      have hq := hf.out.symm.trans hq
      have q1 := (Prod.mk.inj hq).1
      have q2 := (Prod.mk.inj hq).2
      subst f
      subst fe
      clear hq
      try clear q1
      try clear q2
      clear h1
      refine wp_region_N [(0, 1), (1, 1), (2, 1), (3, 1), (4, 1), (5, 1)] (by kernel_rfl) ?_
      refine wpS_this [0, 1, 2, 3, 4, 5] rfl (by kernel_rfl) (by simp only [pickL, nthL, List.cons_append, List.nil_append]; rfl) ?_
      repeat (go_big_quiet_step (fail))
      refine wpQuiet_nil ?_
      refine wpS_nil ?_
      refine then_normal ?_
      refine wp_cond_true rfl ?_
      refine wp_seq ?_
      refine wp_region_N [(0, 1), (1, 1), (2, 3), (3, 1), (4, 1), (5, 1), (6, 1), (7, 1), (8, 3), (9, 1), (10, 1)] (by kernel_rfl) ?_
      refine wpS_loadA (i := 0) (d := some 30) (cells := rgC (noR) (.slice pf (noR).p.2.2.length cf)) rfl (by rfl) rfl rfl (HM24.out.sub 0 rfl (fun k u h => by rw [Nat.zero_add]; exact h)) Try.underlying30 rfl (by kernel_rfl) rfl ?_
      simp only [Act.put, List.setIfInBounds_toArray, List.set_cons_succ, List.set_cons_zero]
      refine wpS_read (i := 1) (d := some 31) (v := rgV noR (.slice none 0 0)) rfl (by rfl) (by kernel_rfl) rfl ?_
      simp only [Act.put, List.setIfInBounds_toArray, List.set_cons_succ, List.set_cons_zero]
      refine wpS_does2 (i := 2) (d := some 32) (rem := [_, _, _, _]) (out := [_, _, _, _, _]) rfl (by rfl) rfl Try.call11 (Does.ofList (gsame_d (listT [_]) _ noR (srcL 0 rfl rowT_reads) (Nat.zero_le _) _ noR (srcNil _) (Nat.zero_le _))) rfl rfl HM24.out [1] rfl covS_nil rfl rfl ?_
      rintro W26 hm25 -
      rw [sameR_self]
      have HM27 := Lib.hid hm25
      clear hm25
      simp only [Act.put, List.setIfInBounds_toArray, List.set_cons_succ, List.set_cons_zero]
      refine wpS_this [3, 4, 5, 6, 7] rfl (by kernel_rfl) (by simp only [pickL, nthL, List.cons_append, List.nil_append]; rfl) ?_
      repeat (go_big_quiet_step (fail))
      refine wpQuiet_nil ?_
      refine wpS_does0 (i := 8) (d := some 38) (rem := [_, _, _, _, _]) (out := [_, _, _, _, _]) rfl (by rfl) rfl Try.call9 (gawake_d)  HM27.out [] rfl covS_nil rfl rfl ?_
      rintro W29 hm28 -
      have HM30 := Lib.hid hm28
      clear hm28
      simp only [Act.put, List.setIfInBounds_toArray, List.set_cons_succ, List.set_cons_zero]
      refine wpS_this [9, 10] rfl (by kernel_rfl) (by simp only [pickL, nthL, List.cons_append, List.nil_append]; rfl) ?_
      repeat (go_big_quiet_step (fail))
      refine wpQuiet_nil ?_
      refine wpS_nil ?_
      refine then_normal ?_
      refine wp_ret ?_
      refine then_ret ?_
      refine bodyPost_ret (results_tmp rfl _ _ _) rfl ?_
      exact does_ret (Mem.only (M := [_]) HM30.out [2] rfl) rfl rfl
    · have g1 := decide_eq_false h1
      have g2 := decide_eq_true h2
      have hq : riseR a n x = (noR, 1) := rise_out (.inr h2)
      have hq := hf.out.symm.trans hq
      have q1 := (Prod.mk.inj hq).1
      have q2 := (Prod.mk.inj hq).2
      subst f
      subst fe
      clear hq
      try clear q1
      try clear q2
      clear h1 h2
      refine wp_region_N [(0, 1), (1, 1), (2, 1), (3, 1), (4, 1), (5, 1)] (by kernel_rfl) ?_
      refine wpS_this [0, 1, 2, 3, 4, 5] rfl (by kernel_rfl) (by simp only [pickL, nthL, List.cons_append, List.nil_append]; rfl) ?_
      repeat (go_big_quiet_step (fail))
      refine wpQuiet_nil ?_
      refine wpS_nil ?_
      refine then_normal ?_
      refine wp_cond_true rfl ?_
      refine wp_seq ?_
      refine wp_region_N [(0, 1), (1, 1), (2, 3), (3, 1), (4, 1), (5, 1), (6, 1), (7, 1), (8, 3), (9, 1), (10, 1)] (by kernel_rfl) ?_
      refine wpS_loadA (i := 0) (d := some 30) (cells := rgC (noR) (.slice pf (noR).p.2.2.length cf)) rfl (by rfl) rfl rfl (HM24.out.sub 0 rfl (fun k u h => by rw [Nat.zero_add]; exact h)) Try.underlying30 rfl (by kernel_rfl) rfl ?_
      simp only [Act.put, List.setIfInBounds_toArray, List.set_cons_succ, List.set_cons_zero]
      refine wpS_read (i := 1) (d := some 31) (v := rgV noR (.slice none 0 0)) rfl (by rfl) (by kernel_rfl) rfl ?_
      simp only [Act.put, List.setIfInBounds_toArray, List.set_cons_succ, List.set_cons_zero]
      refine wpS_does2 (i := 2) (d := some 32) (rem := [_, _, _, _]) (out := [_, _, _, _, _]) rfl (by rfl) rfl Try.call11 (Does.ofList (gsame_d (listT [_]) _ noR (srcL 0 rfl rowT_reads) (Nat.zero_le _) _ noR (srcNil _) (Nat.zero_le _))) rfl rfl HM24.out [1] rfl covS_nil rfl rfl ?_
      rintro W32 hm31 -
      rw [sameR_self]
      have HM33 := Lib.hid hm31
      clear hm31
      simp only [Act.put, List.setIfInBounds_toArray, List.set_cons_succ, List.set_cons_zero]
      refine wpS_this [3, 4, 5, 6, 7] rfl (by kernel_rfl) (by simp only [pickL, nthL, List.cons_append, List.nil_append]; rfl) ?_
      repeat (go_big_quiet_step (fail))
      refine wpQuiet_nil ?_
      refine wpS_does0 (i := 8) (d := some 38) (rem := [_, _, _, _, _]) (out := [_, _, _, _, _]) rfl (by rfl) rfl Try.call9 (gawake_d)  HM33.out [] rfl covS_nil rfl rfl ?_
      rintro W35 hm34 -
      have HM36 := Lib.hid hm34
      clear hm34
      simp only [Act.put, List.setIfInBounds_toArray, List.set_cons_succ, List.set_cons_zero]
      refine wpS_this [9, 10] rfl (by kernel_rfl) (by simp only [pickL, nthL, List.cons_append, List.nil_append]; rfl) ?_
      repeat (go_big_quiet_step (fail))
      refine wpQuiet_nil ?_
      refine wpS_nil ?_
      refine then_normal ?_
      refine wp_ret ?_
      refine then_ret ?_
      refine bodyPost_ret (results_tmp rfl _ _ _) rfl ?_
      exact does_ret (Mem.only (M := [_]) HM36.out [2] rfl) rfl rfl
    · have g1 := decide_eq_false h1
      have g2 := decide_eq_false h2
      have hn8 : 0 ≤ n ∧ n < 8 := by omega
      clear h1 h2
      refine wp_region_N [(0, 1), (1, 1), (2, 1), (3, 1), (4, 1), (5, 1)] (by kernel_rfl) ?_
      refine wpS_this [0, 1, 2, 3, 4, 5] rfl (by kernel_rfl) (by simp only [pickL, nthL, List.cons_append, List.nil_append]; rfl) ?_
      repeat (go_big_quiet_step (fail))
      refine wpQuiet_nil ?_
      refine wpS_nil ?_
      refine then_normal ?_
      refine wp_cond_false rfl ?_
      refine wp_skip ?_
      refine then_normal ?_
      refine wp_seq ?_
      refine wp_seq ?_
      rcases rise_ways a n x hn8 with hq | ⟨hle, hq⟩ | ⟨hmy, hx, hle, hq⟩
      · have hq := hq
        have hq := hf.out.symm.trans hq
        have q1 := (Prod.mk.inj hq).1
        have q2 := (Prod.mk.inj hq).2
        subst f
        subst fe
        clear hq
        try clear q1
        try clear q2
        refine wp_region_N [(0, 1), (1, 1)] (by kernel_rfl) ?_
        refine wpS_this [0, 1] rfl (by kernel_rfl) (by simp only [pickL, nthL, List.cons_append, List.nil_append]; rfl) ?_
        repeat (go_big_quiet_step (fail))
        refine wpQuiet_nil ?_
        refine wpS_nil ?_
        refine then_normal ?_
        refine wp_cond_true rfl ?_
        refine wp_seq ?_
        skip
        · skip
          refine wp_region_N [(0, 1), (1, 1), (2, 3), (3, 1), (4, 1), (5, 1), (6, 1), (7, 1), (8, 1), (9, 1), (10, 1), (11, 1), (12, 1), (13, 1), (14, 1), (15, 1), (16, 1), (17, 1), (18, 1), (19, 1), (20, 3), (21, 1), (22, 1)] (by kernel_rfl) ?_
          refine wpS_loadA (i := 0) (d := some 42) (cells := rgC (noR) (.slice pf (noR).p.2.2.length cf)) rfl (by rfl) rfl rfl (HM24.out.sub 0 rfl (fun k u h => by rw [Nat.zero_add]; exact h)) Try.underlying30 rfl (by kernel_rfl) rfl ?_
          simp only [Act.put, List.setIfInBounds_toArray, List.set_cons_succ, List.set_cons_zero]
          refine wpS_read (i := 1) (d := some 43) (v := rgV noR (.slice none 0 0)) rfl (by rfl) (by kernel_rfl) rfl ?_
          simp only [Act.put, List.setIfInBounds_toArray, List.set_cons_succ, List.set_cons_zero]
          refine wpS_does2 (i := 2) (d := some 44) (rem := [_, _, _, _]) (out := [_, _, _, _, _]) rfl (by rfl) rfl Try.call11 (Does.ofList (gsame_d (listT [_]) _ noR (srcL 0 rfl rowT_reads) (Nat.zero_le _) _ noR (srcNil _) (Nat.zero_le _))) rfl rfl HM24.out [1] rfl covS_nil rfl rfl ?_
          rintro W38 hm37 -
          rw [sameR_self]
          have HM39 := Lib.hid hm37
          clear hm37
          simp only [Act.put, List.setIfInBounds_toArray, List.set_cons_succ, List.set_cons_zero]
          refine wpS_this [3, 4, 5, 6, 7, 8, 9, 10, 11] rfl (by kernel_rfl) (by simp only [pickL, nthL, List.cons_append, List.nil_append]; rfl) ?_
          repeat (go_big_quiet_step (fail))
          refine wpQuiet_nil ?_
          refine wpS_skip (i := 12) (d := some 54) rfl (by rfl) rfl ?_
          simp only [Act.put, List.setIfInBounds_toArray, List.set_cons_succ, List.set_cons_zero]
          refine wpS_skip (i := 13) (d := some 55) rfl (by rfl) rfl ?_
          simp only [Act.put, List.setIfInBounds_toArray, List.set_cons_succ, List.set_cons_zero]
          refine wpS_this [14, 15, 16, 17, 18, 19] rfl (by kernel_rfl) (by simp only [pickL, nthL, List.cons_append, List.nil_append]; rfl) ?_
          repeat (go_big_quiet_step (fail))
          refine wpQuiet_nil ?_
          refine wpS_does0 (i := 20) (d := some 62) (rem := [_, _, _, _, _]) (out := [_, _, _, _, _]) rfl (by rfl) rfl Try.call9 (gawake_d)  HM39.out [] rfl covS_nil rfl rfl ?_
          rintro W41 hm40 -
          have HM42 := Lib.hid hm40
          clear hm40
          simp only [Act.put, List.setIfInBounds_toArray, List.set_cons_succ, List.set_cons_zero]
          refine wpS_this [21, 22] rfl (by kernel_rfl) (by simp only [pickL, nthL, List.cons_append, List.nil_append]; rfl) ?_
          repeat (go_big_quiet_step (fail))
          refine wpQuiet_nil ?_
          refine wpS_nil ?_
          refine then_normal ?_
          refine wp_ret ?_
          refine then_ret ?_
          refine bodyPost_ret (results_tmp rfl _ _ _) rfl ?_
          exact does_ret (Mem.only (M := [_]) HM42.out [2] rfl) rfl rfl
      · have hq := hf.out.symm.trans hq
        have q1 := (Prod.mk.inj hq).1
        have q2 := (Prod.mk.inj hq).2
        subst f
        subst fe
        clear hq
        try clear q1
        try clear q2
        have gst : decide (x ≤ a.s n.toNat) = true := decide_eq_true hle
        clear hle
        refine wp_region_N [(0, 1), (1, 1)] (by kernel_rfl) ?_
        refine wpS_this [0, 1] rfl (by kernel_rfl) (by simp only [pickL, nthL, List.cons_append, List.nil_append]; rfl) ?_
        repeat (go_big_quiet_step (fail))
        refine wpQuiet_nil ?_
        refine wpS_nil ?_
        refine then_normal ?_
        refine wp_cond_true rfl ?_
        refine wp_seq ?_
        skip
        · skip
          refine wp_region_N [(0, 1), (1, 1), (2, 3), (3, 1), (4, 1), (5, 1), (6, 1), (7, 1), (8, 1), (9, 1), (10, 1), (11, 1), (12, 1), (13, 1), (14, 1), (15, 1), (16, 1), (17, 1), (18, 1), (19, 1), (20, 3), (21, 1), (22, 1)] (by kernel_rfl) ?_
          refine wpS_loadA (i := 0) (d := some 42) (cells := rgC (noR) (.slice pf (noR).p.2.2.length cf)) rfl (by rfl) rfl rfl (HM24.out.sub 0 rfl (fun k u h => by rw [Nat.zero_add]; exact h)) Try.underlying30 rfl (by kernel_rfl) rfl ?_
          simp only [Act.put, List.setIfInBounds_toArray, List.set_cons_succ, List.set_cons_zero]
          refine wpS_read (i := 1) (d := some 43) (v := rgV noR (.slice none 0 0)) rfl (by rfl) (by kernel_rfl) rfl ?_
          simp only [Act.put, List.setIfInBounds_toArray, List.set_cons_succ, List.set_cons_zero]
          refine wpS_does2 (i := 2) (d := some 44) (rem := [_, _, _, _]) (out := [_, _, _, _, _]) rfl (by rfl) rfl Try.call11 (Does.ofList (gsame_d (listT [_]) _ noR (srcL 0 rfl rowT_reads) (Nat.zero_le _) _ noR (srcNil _) (Nat.zero_le _))) rfl rfl HM24.out [1] rfl covS_nil rfl rfl ?_
          rintro W44 hm43 -
          rw [sameR_self]
          have HM45 := Lib.hid hm43
          clear hm43
          simp only [Act.put, List.setIfInBounds_toArray, List.set_cons_succ, List.set_cons_zero]
          refine wpS_this [3, 4, 5, 6, 7, 8, 9, 10, 11] rfl (by kernel_rfl) (by simp only [pickL, nthL, List.cons_append, List.nil_append]; rfl) ?_
          repeat (go_big_quiet_step (fail))
          refine wpQuiet_nil ?_
          refine wpS_read (i := 12) (d := some 54) rfl (by rfl) (run_addrStI (hn8) rfl rfl rfl) rfl ?_
          simp only [Act.put, List.setIfInBounds_toArray, List.set_cons_succ, List.set_cons_zero]
          refine wpS_load1 (i := 13) (d := some 55) (u := _) rfl (by rfl) rfl rfl (HM45.out.sub1 4 rfl (rgC_s ((show n.toNat < 8 by omega)))) Try.underlying3 rfl rfl ?_
          simp only [Act.put, List.setIfInBounds_toArray, List.set_cons_succ, List.set_cons_zero]
          refine wpS_this [14, 15, 16, 17, 18, 19] rfl (by kernel_rfl) (by simp only [pickL, nthL, List.cons_append, List.nil_append]; rfl) ?_
          repeat (go_big_quiet_step (fail))
          refine wpQuiet_nil ?_
          refine wpS_does0 (i := 20) (d := some 62) (rem := [_, _, _, _, _]) (out := [_, _, _, _, _]) rfl (by rfl) rfl Try.call9 (gawake_d)  HM45.out [] rfl covS_nil rfl rfl ?_
          rintro W47 hm46 -
          have HM48 := Lib.hid hm46
          clear hm46
          simp only [Act.put, List.setIfInBounds_toArray, List.set_cons_succ, List.set_cons_zero]
          refine wpS_this [21, 22] rfl (by kernel_rfl) (by simp only [pickL, nthL, List.cons_append, List.nil_append]; rfl) ?_
          repeat (go_big_quiet_step (fail))
          refine wpQuiet_nil ?_
          refine wpS_nil ?_
          refine then_normal ?_
          refine wp_ret ?_
          refine then_ret ?_
          refine bodyPost_ret (results_tmp rfl _ _ _) rfl ?_
          exact does_ret (Mem.only (M := [_]) HM48.out [2] rfl) rfl rfl
      · have hq := hf.out.symm.trans hq
        have q1 := (Prod.mk.inj hq).1
        have q2 := (Prod.mk.inj hq).2
        subst f
        subst fe
        clear hq
        try clear q1
        try clear q2
        have hmf := Lib.hid (mayR_rise (i := n.toNat) hmy hx)
        have hbf := Lib.hid (below_rise hle)
        have hfb := Lib.hid (below_rise' (show n.toNat < 8 by omega) hle)
        have hag := Lib.hid (riseR_again hmy (decide_eq_true hn8) hx)
        clear hle hmy hx
        refine wp_region_N [(0, 1), (1, 1)] (by kernel_rfl) ?_
        refine wpS_this [0, 1] rfl (by kernel_rfl) (by simp only [pickL, nthL, List.cons_append, List.nil_append]; rfl) ?_
        repeat (go_big_quiet_step (fail))
        refine wpQuiet_nil ?_
        refine wpS_nil ?_
        refine then_normal ?_
        refine wp_cond_false rfl ?_
        refine wp_skip ?_
        refine then_normal ?_
        refine wp_seq ?_
        refine wp_region_N [(0, 1), (1, 3), (2, 3)] (by kernel_rfl) ?_
        refine wpS_loadA (i := 0) (d := some 64) (cells := rgC (a) (.slice pa a.p.2.2.length ca)) rfl (by rfl) rfl rfl (HM24.out.sub 4 rfl (fun k u h => by rw [Nat.zero_add]; exact h)) Try.underlying30 rfl (by kernel_rfl) rfl ?_
        simp only [Act.put, List.setIfInBounds_toArray, List.set_cons_succ, List.set_cons_zero]
        refine wpS_alloc (i := 1) (dd := 9) (z := rgV noR (.slice none 0 0)) (cs := (rgC noR (.slice none 0 0)).toArray) rfl (by rfl) rfl (by kernel_rfl) rfl HM24.out covS_nil rfl ?_
        rintro b51 W50 hm49 -
        have HM52 := Lib.hid hm49
        clear hm49
        simp only [Act.put, List.setIfInBounds_toArray, List.set_cons_succ, List.set_cons_zero]
        refine wpS_storeA (i := 2) (L2 := [_, _, _, _, _]) (cs' := rgC (a) (.slice pa a.p.2.2.length ca)) rfl (by rfl) rfl rfl rfl (by kernel_rfl) (rgC_one _ _ _) HM52.out 0 rfl rfl (by kernel_rfl) (by kernel_rfl) covS_nil rfl ?_
        rintro W54 hm53 -
        have HM55 := Lib.hid hm53
        clear hm53
        refine wpS_nil ?_
        refine then_normal ?_
        refine wp_seq ?_
        refine wp_region_N [(0, 1), (1, 1), (2, 1), (3, 1), (4, 3)] (by kernel_rfl) ?_
        refine wpS_this [0, 1, 2] rfl (by kernel_rfl) (by simp only [pickL, nthL, List.cons_append, List.nil_append]; rfl) ?_
        repeat (go_big_quiet_step (fail))
        refine wpQuiet_nil ?_
        refine wpS_read (i := 3) (d := some 68) rfl (by rfl) (run_addrStI (hn8) rfl rfl rfl) rfl ?_
        simp only [Act.put, List.setIfInBounds_toArray, List.set_cons_succ, List.set_cons_zero]
        refine wpS_store1 (i := 4) (v := .int _ _) (L2 := [_, _, _, _, _]) (cs' := rgC ((⟨upd a.s n.toNat x, a.p, a.e⟩ : Rg)) (.slice pa a.p.2.2.length ca)) rfl (by rfl) rfl rfl rfl rfl (by kernel_rfl) rfl HM55.out 0 rfl rfl (Nat.ble_eq_true_of_le (by rw [rgC_len]; have := (show n.toNat < 8 by omega); omega)) (rgC_setS ((show n.toNat < 8 by omega)) _) covS_nil rfl ?_
        rintro W57 hm56 -
        have HM58 := Lib.hid hm56
        clear hm56
        refine wpS_nil ?_
        refine then_normal ?_
        refine wp_seq ?_
        refine wp_region_N [(0, 1), (1, 1), (2, 1), (3, 3), (4, 1), (5, 1), (6, 1), (7, 3), (8, 3), (9, 1)] (by kernel_rfl) ?_
        refine wpS_loadA (i := 0) (d := some 70) (cells := rgC ((⟨upd a.s n.toNat x, a.p, a.e⟩ : Rg)) (.slice pf ((⟨upd a.s n.toNat x, a.p, a.e⟩ : Rg)).p.2.2.length cf)) rfl (by rfl) rfl rfl (HM58.out.sub 1 rfl (fun k u h => by rw [Nat.zero_add]; exact h)) Try.underlying30 rfl (by kernel_rfl) rfl ?_
        simp only [Act.put, List.setIfInBounds_toArray, List.set_cons_succ, List.set_cons_zero]
        refine wpS_this [1, 2] rfl (by kernel_rfl) (by simp only [pickL, nthL, List.cons_append, List.nil_append]; rfl) ?_
        repeat (go_big_quiet_step (fail))
        refine wpQuiet_nil ?_
        refine wpS_doesU3 (i := 3) (d := some 73) (rem := [_, _, _, _, _]) rfl (by rfl) rfl Try.call15 (DoesU.ofList (grise_d (listT [_]) _ (⟨upd a.s n.toNat x, a.p, a.e⟩ : Rg) (srcL 0 rfl rowT_reads) la n x noR 8 hag.out)) rfl rfl rfl HM58.out [2] rfl covS_nil (fun _ => rfl) rfl ?_
        rintro u61 W60 hm59 -
        obtain ⟨pg, cg, rfl, hm59q⟩ := Mem.ringE (n := 0) rfl hm59
        clear hm59
        have HM62 := Lib.hid hm59q
        clear hm59q
        simp only [Act.put, List.setIfInBounds_toArray, List.set_cons_succ, List.set_cons_zero]
        refine wpS_this [4, 5, 6] rfl (by kernel_rfl) (by simp only [pickL, nthL, List.cons_append, List.nil_append]; rfl) ?_
        repeat (go_big_quiet_step (fail))
        refine wpQuiet_nil ?_
        refine wpS_alloc (i := 7) (dd := 10) (z := rgV noR (.slice none 0 0)) (cs := (rgC noR (.slice none 0 0)).toArray) rfl (by rfl) rfl (by kernel_rfl) rfl HM62.out covS_nil rfl ?_
        rintro b65 W64 hm63 -
        have HM66 := Lib.hid hm63
        clear hm63
        simp only [Act.put, List.setIfInBounds_toArray, List.set_cons_succ, List.set_cons_zero]
        refine wpS_storeA (i := 8) (L2 := [_, _, _, _, _, _, _]) (cs' := rgC (noR) (.slice pg 0 cg)) rfl (by rfl) rfl rfl rfl (by kernel_rfl) (rgC_one _ _ _) HM66.out 0 rfl rfl (by kernel_rfl) (by kernel_rfl) covS_nil rfl ?_
        rintro W68 hm67 -
        have HM69 := Lib.hid hm67
        clear hm67
        refine wpS_this [9] rfl (by kernel_rfl) (by simp only [pickL, nthL, List.cons_append, List.nil_append]; rfl) ?_
        repeat (go_big_quiet_step (fail))
        refine wpQuiet_nil ?_
        refine wpS_nil ?_
        refine then_normal ?_
        refine wp_seq ?_
        refine wp_region_N [(0, 1), (1, 3), (2, 1), (3, 1), (4, 1), (5, 3), (6, 1), (7, 1), (8, 1), (9, 1), (10, 3), (11, 1), (12, 1), (13, 1), (14, 1), (15, 1), (16, 3), (17, 1), (18, 1), (19, 1), (20, 1), (21, 1), (22, 1), (23, 3), (24, 1), (25, 1)] (by kernel_rfl) ?_
        refine wpS_loadA (i := 0) (d := some 76) (cells := rgC ((⟨upd a.s n.toNat x, a.p, a.e⟩ : Rg)) (.slice pf ((⟨upd a.s n.toNat x, a.p, a.e⟩ : Rg)).p.2.2.length cf)) rfl (by rfl) rfl rfl (HM69.out.sub 4 rfl (fun k u h => by rw [Nat.zero_add]; exact h)) Try.underlying30 rfl (by kernel_rfl) rfl ?_
        simp only [Act.put, List.setIfInBounds_toArray, List.set_cons_succ, List.set_cons_zero]
        refine wpS_does1 (i := 1) (d := some 77) (rem := [_, _, _, _, _, _, _]) (out := [_, _, _, _, _, _, _, _]) rfl (by rfl) rfl Try.call13 (Does.ofList (gmay_d (listT [_]) _ (⟨upd a.s n.toNat x, a.p, a.e⟩ : Rg) (srcL 0 rfl rowT_reads) la)) rfl HM69.out [2] rfl covS_nil rfl rfl ?_
        rintro W71 hm70 -
        rw [hmf.out]
        have HM72 := Lib.hid hm70
        clear hm70
        simp only [Act.put, List.setIfInBounds_toArray, List.set_cons_succ, List.set_cons_zero]
        refine wpS_this [2] rfl (by kernel_rfl) (by simp only [pickL, nthL, List.cons_append, List.nil_append]; rfl) ?_
        repeat (go_big_quiet_step (fail))
        refine wpQuiet_nil ?_
        refine wpS_loadA (i := 3) (d := some 79) (cells := rgC (a) (.slice pa a.p.2.2.length ca)) rfl (by rfl) rfl rfl (HM72.out.sub 7 rfl (fun k u h => by rw [Nat.zero_add]; exact h)) Try.underlying30 rfl (by kernel_rfl) rfl ?_
        simp only [Act.put, List.setIfInBounds_toArray, List.set_cons_succ, List.set_cons_zero]
        refine wpS_loadA (i := 4) (d := some 80) (cells := rgC ((⟨upd a.s n.toNat x, a.p, a.e⟩ : Rg)) (.slice pf ((⟨upd a.s n.toNat x, a.p, a.e⟩ : Rg)).p.2.2.length cf)) rfl (by rfl) rfl rfl (HM72.out.sub 4 rfl (fun k u h => by rw [Nat.zero_add]; exact h)) Try.underlying30 rfl (by kernel_rfl) rfl ?_
        simp only [Act.put, List.setIfInBounds_toArray, List.set_cons_succ, List.set_cons_zero]
        refine wpS_does2 (i := 5) (d := some 81) (rem := [_, _, _, _, _, _]) (out := [_, _, _, _, _, _, _, _]) rfl (by rfl) rfl Try.call12 (Does.ofList (gbelow_d (listT [_, _]) _ a (srcL 1 rfl (srcOld ha)) la _ (⟨upd a.s n.toNat x, a.p, a.e⟩ : Rg) (srcL 0 rfl rowT_reads) la)) rfl rfl HM72.out [0, 4] rfl covS_nil rfl rfl ?_
        rintro W74 hm73 -
        rw [hbf.out]
        have HM75 := Lib.hid hm73
        clear hm73
        simp only [Act.put, List.setIfInBounds_toArray, List.set_cons_succ, List.set_cons_zero]
        refine wpS_this [6, 7] rfl (by kernel_rfl) (by simp only [pickL, nthL, List.cons_append, List.nil_append]; rfl) ?_
        repeat (go_big_quiet_step (fail))
        refine wpQuiet_nil ?_
        refine wpS_loadA (i := 8) (d := some 84) (cells := rgC ((⟨upd a.s n.toNat x, a.p, a.e⟩ : Rg)) (.slice pf ((⟨upd a.s n.toNat x, a.p, a.e⟩ : Rg)).p.2.2.length cf)) rfl (by rfl) rfl rfl (HM75.out.sub 5 rfl (fun k u h => by rw [Nat.zero_add]; exact h)) Try.underlying30 rfl (by kernel_rfl) rfl ?_
        simp only [Act.put, List.setIfInBounds_toArray, List.set_cons_succ, List.set_cons_zero]
        refine wpS_loadA (i := 9) (d := some 85) (cells := rgC (a) (.slice pa a.p.2.2.length ca)) rfl (by rfl) rfl rfl (HM75.out.sub 7 rfl (fun k u h => by rw [Nat.zero_add]; exact h)) Try.underlying30 rfl (by kernel_rfl) rfl ?_
        simp only [Act.put, List.setIfInBounds_toArray, List.set_cons_succ, List.set_cons_zero]
        refine wpS_does2 (i := 10) (d := some 86) (rem := [_, _, _, _, _, _]) (out := [_, _, _, _, _, _, _, _]) rfl (by rfl) rfl Try.call12 (Does.ofList (gbelow_d (listT [_, _]) _ (⟨upd a.s n.toNat x, a.p, a.e⟩ : Rg) (srcL 0 rfl rowT_reads) la _ a (srcL 1 rfl (srcOld ha)) la)) rfl rfl HM75.out [0, 0] rfl covS_nil rfl rfl ?_
        rintro W77 hm76 -
        rw [hfb.out]
        have HM78 := Lib.hid hm76
        clear hm76
        simp only [Act.put, List.setIfInBounds_toArray, List.set_cons_succ, List.set_cons_zero]
        refine wpS_this [11, 12, 13] rfl (by kernel_rfl) (by simp only [pickL, nthL, List.cons_append, List.nil_append]; rfl) ?_
        repeat (go_big_quiet_step (fail))
        refine wpQuiet_nil ?_
        refine wpS_loadA (i := 14) (d := some 90) (cells := rgC ((⟨upd a.s n.toNat x, a.p, a.e⟩ : Rg)) (.slice pf ((⟨upd a.s n.toNat x, a.p, a.e⟩ : Rg)).p.2.2.length cf)) rfl (by rfl) rfl rfl (HM78.out.sub 5 rfl (fun k u h => by rw [Nat.zero_add]; exact h)) Try.underlying30 rfl (by kernel_rfl) rfl ?_
        simp only [Act.put, List.setIfInBounds_toArray, List.set_cons_succ, List.set_cons_zero]
        refine wpS_loadA (i := 15) (d := some 91) (cells := rgC ((⟨upd a.s n.toNat x, a.p, a.e⟩ : Rg)) (.slice pa a.p.2.2.length ca)) rfl (by rfl) rfl rfl (HM78.out.sub 4 rfl (fun k u h => by rw [Nat.zero_add]; exact h)) Try.underlying30 rfl (by kernel_rfl) rfl ?_
        simp only [Act.put, List.setIfInBounds_toArray, List.set_cons_succ, List.set_cons_zero]
        refine wpS_does2 (i := 16) (d := some 92) (rem := [_, _, _, _, _, _]) (out := [_, _, _, _, _, _, _, _]) rfl (by rfl) rfl Try.call11 (Does.ofList (gsame_d (listT [_, _]) _ (⟨upd a.s n.toNat x, a.p, a.e⟩ : Rg) (srcL 0 rfl rowT_reads) la _ (⟨upd a.s n.toNat x, a.p, a.e⟩ : Rg) (srcL 1 rfl (srcOld ha)) la)) rfl rfl HM78.out [0, 0] rfl covS_nil rfl rfl ?_
        rintro W80 hm79 -
        rw [sameR_self]
        have HM81 := Lib.hid hm79
        clear hm79
        simp only [Act.put, List.setIfInBounds_toArray, List.set_cons_succ, List.set_cons_zero]
        refine wpS_this [17, 18, 19, 20, 21, 22] rfl (by kernel_rfl) (by simp only [pickL, nthL, List.cons_append, List.nil_append]; rfl) ?_
        repeat (go_big_quiet_step (fail))
        refine wpQuiet_nil ?_
        refine wpS_does0 (i := 23) (d := some 99) (rem := [_, _, _, _, _, _, _, _]) (out := [_, _, _, _, _, _, _, _]) rfl (by rfl) rfl Try.call9 (gawake_d)  HM81.out [] rfl covS_nil rfl rfl ?_
        rintro W83 hm82 -
        have HM84 := Lib.hid hm82
        clear hm82
        simp only [Act.put, List.setIfInBounds_toArray, List.set_cons_succ, List.set_cons_zero]
        refine wpS_this [24, 25] rfl (by kernel_rfl) (by simp only [pickL, nthL, List.cons_append, List.nil_append]; rfl) ?_
        repeat (go_big_quiet_step (fail))
        refine wpQuiet_nil ?_
        refine wpS_nil ?_
        refine then_normal ?_
        refine wp_ret ?_
        refine bodyPost_ret (results_tmp rfl _ _ _) rfl ?_
        exact does_ret (Mem.only (M := [_]) HM84.out [1] rfl) rfl rfl
  · clear hw
    obtain ⟨z, hz'⟩ := int_letter (hvy 0 [⟨a, pa, a.p.2.2.length, ca⟩])
    replace hfw : 0 < hvy 0 [⟨a, pa, a.p.2.2.length, ca⟩] := hfw
    rw [hz'] at hfw
    have gz : decide (0 < z) = true := decide_eq_true hfw
    clear hfw
    have hfw := Lib.hid hz'
    clear hz'
    refine wp_region_N [(0, 1), (1, 3), (2, 3), (3, 1)] (by kernel_rfl) ?_
    refine wpS_loadA (i := 0) (d := some 12) (cells := rgC (a) (.slice pa a.p.2.2.length ca)) rfl (by rfl) rfl rfl (HM4.out.sub 0 rfl (fun k u h => by rw [Nat.zero_add]; exact h)) Try.underlying30 rfl (by kernel_rfl) rfl ?_
    simp only [Act.put, List.setIfInBounds_toArray, List.set_cons_succ, List.set_cons_zero]
    refine wpS_buildN elemR (i := 1) (dd := 13) (n := 1) (xs := [⟨a, pa, a.p.2.2.length, ca⟩]) (cs := (rgC a (.slice pa a.p.2.2.length ca) ++ []).toArray) rfl (by rfl) (fun _ => by kernel_rfl) rfl rfl HM4.out covS_nil rfl ?_
    rintro b87 W88 hm89 -
    have HM90 := Lib.hid hm89
    clear hm89
    simp only [Act.put, List.setIfInBounds_toArray, List.set_cons_succ, List.set_cons_zero]
    refine wpS_does1 (i := 2) (d := some 14) (rem := [_, _]) (out := [_, _, _]) rfl (by rfl) rfl Try.call8 (heavy_d (rowT elemR _ _) _ _ rowOwnE (Nat.le_of_ble_eq_true rfl)) rfl HM90.out [0] rfl covS_nil rfl rfl ?_
    rintro W92 hm91 -
    rw [hfw.out]
    have HM93 := Lib.hid hm91
    clear hm91
    simp only [Act.put, List.setIfInBounds_toArray, List.set_cons_succ, List.set_cons_zero]
    refine wpS_this [3] rfl (by kernel_rfl) (by simp only [pickL, nthL, List.cons_append, List.nil_append]; rfl) ?_
    repeat (go_big_quiet_step (fail))
    refine wpQuiet_nil ?_
    refine wpS_nil ?_
    refine then_normal ?_
    refine wp_cond_true rfl ?_
    refine wp_seq ?_
    refine wp_region_N [(0, 3), (1, 1)] (by kernel_rfl) ?_
    refine wpS_does0 (i := 0) (d := some 16) (rem := [_, _, _]) (out := [_, _, _]) rfl (by rfl) rfl Try.call9 (gawake_d)  HM93.out [] rfl covS_nil rfl rfl ?_
    rintro W95 hm94 -
    have HM96 := Lib.hid hm94
    clear hm94
    simp only [Act.put, List.setIfInBounds_toArray, List.set_cons_succ, List.set_cons_zero]
    refine wpS_this [1] rfl (by kernel_rfl) (by simp only [pickL, nthL, List.cons_append, List.nil_append]; rfl) ?_
    repeat (go_big_quiet_step (fail))
    refine wpQuiet_nil ?_
    refine wpS_nil ?_
    refine then_normal ?_
    refine wp_ret ?_
    refine then_ret ?_
    refine bodyPost_ret (results_tmp rfl _ _ _) rfl ?_
    exact does_ret (Mem.only (M := [_]) HM96.out [2] rfl) rfl rfl

end Go.Proofs.Ytihhopoplcelfaa
