/- Lead: what the landed Stage does. -/
import Derived.Test.YtdfmfcbeebfdhaaLdL
namespace Go.Proofs.Ytdfmfcbeebfdhaa
open Go Go.RowKit Go.BigFrame

theorem with_nil {a : Rg} {n : Int} (h : ofR a 1 2 = []) : withR a n = (a, 0) := if_pos h
theorem with_eq {a : Rg} {n : Int} {M t : List Int} (hM : ofR a 1 2 = M) (ht : assignOf (nowL a) M = t) (h : M ≠ []) (h1 : t = a.p.2.2) : withR a n = (⟨memS a, a.p, a.e⟩, 0) := by
  subst hM
  unfold withR
  rw [if_neg h, ht, if_pos h1]
theorem with_next {a : Rg} {n : Int} {M t : List Int} {f1 f2 : Int} {sf : List Int} {fe : Int} (hM : ofR a 1 2 = M) (ht : assignOf (nowL a) M = t) (h : M ≠ []) (h1 : ¬ t = a.p.2.2) (hn : nextP (a.p.1, a.p.2.1, a.p.2.2) n t = ((f1, f2, sf), fe)) : withR a n = if fe = 0 then (⟨memS a, (f1, f2, sf), a.e⟩, 0) else (noR, fe) := by
  subst hM
  unfold withR
  rw [if_neg h, ht, if_neg h1, show nextP a.p n t = ((f1, f2, sf), fe) from hn]
theorem with_len {a b : Rg} {n e : Int} (h : withR a n = (b, e)) (ha : a.p.2.2.length ≤ 1000) : b.p.2.2.length ≤ 1000 := by
  have h1 : b = (withR a n).1 := (congrArg Prod.fst h).symm
  rw [h1]
  unfold withR
  by_cases h0 : ofR a 1 2 = []
  · rw [if_pos h0]; exact ha
  · rw [if_neg h0]
    by_cases h2 : assignOf (nowL a) (ofR a 1 2) = a.p.2.2
    · rw [if_pos h2]; exact ha
    · rw [if_neg h2]
      split
      · exact nextP_len (f := (nextP a.p n (assignOf (nowL a) (ofR a 1 2))).1) (e := (nextP a.p n (assignOf (nowL a) (ofR a 1 2))).2) rfl (by rw [(assigned (ofR_ok a 1 2) h0).len]; decide)
      · exact Nat.zero_le _
theorem stage_arg {a : Rg} {n : Int} {here : List Int} (h : mayR a = false ∨ nodeE n = false) : stageR a n here = (noR, 1) := by
  unfold stageR
  rw [if_neg]
  rintro ⟨h1, h2⟩
  rcases h with h | h
  · rw [h] at h1; cases h1
  · rw [h] at h2; cases h2
theorem stage_else {a : Rg} {n : Int} {here : List Int} (h1 : mayR a = true) (h2 : nodeE n = true) (h3 : ¬ leaderR a here = n) : stageR a n here = (noR, 10) := by
  unfold stageR
  rw [if_pos ⟨h1, h2⟩, if_neg h3]
theorem stage_to {a b : Rg} {n e : Int} {here : List Int} (h1 : mayR a = true) (h2 : nodeE n = true) (h3 : leaderR a here = n) (h4 : withR a n = (b, e)) : stageR a n here = if e = 0 then (if sameR (goneR b) a = true then (noR, 9) else (goneR b, 0)) else (noR, e) := by
  unfold stageR
  rw [if_pos ⟨h1, h2⟩, if_pos h3, h4]
set_option maxHeartbeats 4000000 in
set_option maxRecDepth 100000 in
theorem settled_d (R : At) (va : Value) (a : Rg) (ha : Reads elemI R va a.p.2.2) (la : a.p.2.2.length ≤ 1000) : Does Try.prog 22 #[rgV a va] [R] (.bool (settledR a)) [R] := by
  intro w H hp
  have HM0 := Lib.hid (mem_refl hp)
  clear hp
  obtain ⟨pa, ca, rfl⟩ := row_form (Mem.src HM0.out 0 rfl ha)
  go_enter Try.func22, Try.ntmps22
  refine wp_seq ?_
  refine wp_region_N [(0, 3), (1, 1)] (by kernel_rfl) ?_
  refine wpS_boxA (i := 0) (dd := 1) rfl (by rfl) rfl rfl HM0.out covS_nil rfl ?_
  rintro b3 W2 hm1 -
  have HM4 := Lib.hid hm1
  clear hm1
  simp only [Act.put, List.setIfInBounds_toArray, List.set_cons_succ, List.set_cons_zero]
  refine wpS_this [1] rfl (by kernel_rfl) (by simp only [pickL, nthL, List.cons_append, List.nil_append]; rfl) ?_
  repeat (go_big_quiet_step (fail))
  refine wpQuiet_nil ?_
  refine wpS_nil ?_
  refine then_normal ?_
  refine wp_seq ?_
  rcases (show decide (ofR a 1 1 ≠ []) = true ∨ (decide (ofR a 1 1 ≠ []) = false ∧ decide (ofR a 3 3 ≠ []) = true) ∨ (decide (ofR a 1 1 ≠ []) = false ∧ decide (ofR a 3 3 ≠ []) = false) from by cases decide (ofR a 1 1 ≠ []) <;> cases decide (ofR a 3 3 ≠ []) <;> simp) with h1 | ⟨h1, h3⟩ | ⟨h1, h3⟩
  · replace h1 := Lib.hid h1
    refine wp_region_N [(0, 1), (1, 3), (2, 1), (3, 1), (4, 3), (5, 1), (6, 1)] (by kernel_rfl) ?_
    refine wpS_loadA (i := 0) (d := some 4) (cells := rgC (a) (.slice pa a.p.2.2.length ca)) rfl (by rfl) rfl rfl (HM4.out.sub 0 rfl (fun k u h => by rw [Nat.zero_add]; exact h)) Try.underlying30 rfl (by kernel_rfl) rfl ?_
    simp only [Act.put, List.setIfInBounds_toArray, List.set_cons_succ, List.set_cons_zero]
    refine wpS_does2 (i := 1) (d := some 5) (rem := [_]) (out := [_, _]) rfl (by rfl) rfl Try.call47 (hasAny_d R _ a ha la 1) rfl rfl HM4.out [1] rfl covS_nil rfl rfl ?_
    rintro W6 hm5 -
    rw [h1.out]
    have HM7 := Lib.hid hm5
    clear hm5
    simp only [Act.put, List.setIfInBounds_toArray, List.set_cons_succ, List.set_cons_zero]
    refine wpS_this [2] rfl (by kernel_rfl) (by simp only [pickL, nthL, List.cons_append, List.nil_append]; rfl) ?_
    repeat (go_big_quiet_step (fail))
    refine wpQuiet_nil ?_
    refine wpS_skip (i := 3) (d := some 7) rfl (by rfl) rfl ?_
    simp only [Act.put, List.setIfInBounds_toArray, List.set_cons_succ, List.set_cons_zero]
    refine wpS_skip (i := 4) (d := some 8) rfl (by rfl) rfl ?_
    simp only [Act.put, List.setIfInBounds_toArray, List.set_cons_succ, List.set_cons_zero]
    refine wpS_this [5, 6] rfl (by kernel_rfl) (by simp only [pickL, nthL, List.cons_append, List.nil_append]; rfl) ?_
    repeat (go_big_quiet_step (fail))
    refine wpQuiet_nil ?_
    refine wpS_nil ?_
    refine then_normal ?_
    refine wp_seq ?_
    rcases (show hasP a = false ∨ (hasP a = true ∧ decide (ownersL a = targetsL a) = false) ∨ (hasP a = true ∧ decide (ownersL a = targetsL a) = true) from by cases hasP a <;> cases decide (ownersL a = targetsL a) <;> simp) with hp | ⟨hp, hq⟩ | ⟨hp, hq⟩
    · replace hp := Lib.hid hp
      refine wp_region_M (fun k => k ∈ ([b3] : List Nat)) [(0, 1), (1, 3), (2, 1), (3, 1), (5, 2), (4, 3), (6, 3), (7, 1), (8, 1), (9, 1), (10, 1), (11, 1), (12, 1), (13, 1)] (by kernel_rfl) (by kernel_rfl) HM7.out ?_
      intro W8 hm9
      have HM10 := Lib.hid hm9
      clear hm9
      refine wpS_loadA (i := 0) (d := some 10) (cells := rgC (a) (.slice pa a.p.2.2.length ca)) rfl (by rfl) rfl rfl (HM10.out.sub 1 rfl (fun k u h => by rw [Nat.zero_add]; exact h)) Try.underlying30 rfl (by kernel_rfl) rfl ?_
      simp only [Act.put, List.setIfInBounds_toArray, List.set_cons_succ, List.set_cons_zero]
      refine wpS_does1 (i := 1) (d := some 11) (rem := [_]) (out := [_, _]) rfl (by rfl) rfl Try.call48 (hasPlan_d R _ a ha la) rfl HM10.out [0] rfl (covS_box 0 rfl covS_nil) rfl rfl ?_
      rintro W12 hm11 hg13
      rw [hp.out]
      have HM14 := Lib.hid hm11
      clear hm11
      simp only [Act.put, List.setIfInBounds_toArray, List.set_cons_succ, List.set_cons_zero]
      refine wpS_this [2] rfl (by kernel_rfl) (by simp only [pickL, nthL, List.cons_append, List.nil_append]; rfl) ?_
      repeat (go_big_quiet_step (fail))
      refine wpQuiet_nil ?_
      refine wpS_skip (i := 3) (d := some 13) rfl (by rfl) rfl ?_
      simp only [Act.put, List.setIfInBounds_toArray, List.set_cons_succ, List.set_cons_zero]
      refine wpS_skip (i := 5) (d := some 15) rfl (by rfl) rfl ?_
      simp only [Act.put, List.setIfInBounds_toArray, List.set_cons_succ, List.set_cons_zero]
      refine wpS_skip (i := 4) (d := some 14) rfl (by rfl) rfl ?_
      simp only [Act.put, List.setIfInBounds_toArray, List.set_cons_succ, List.set_cons_zero]
      refine wpS_skip (i := 6) (d := some 16) rfl (by rfl) rfl ?_
      simp only [Act.put, List.setIfInBounds_toArray, List.set_cons_succ, List.set_cons_zero]
      refine wpS_skip (i := 7) (d := some 17) rfl (by rfl) rfl ?_
      simp only [Act.put, List.setIfInBounds_toArray, List.set_cons_succ, List.set_cons_zero]
      refine wpS_this [8, 9, 10, 11, 12, 13] rfl (by kernel_rfl) (by simp only [pickL, nthL, List.cons_append, List.nil_append]; rfl) ?_
      repeat (go_big_quiet_step (fail))
      refine wpQuiet_nil ?_
      refine wpS_nil ?_
      refine then_normal ?_
      refine wp_ret ?_
      refine bodyPost_ret (results_tmp rfl _ _ _) rfl ?_
      have hc : settledR a = false := by unfold settledR; rw [hp.out, h1.out]; cases decide (ownersL a = targetsL a) <;> cases decide (ofR a 3 3 ≠ []) <;> rfl
      rw [hc]
      exact does_ret (Mem.only (M := [_]) HM14.out [0] rfl) rfl rfl
    · replace hp := Lib.hid hp
      refine wp_region_M (fun k => k ∈ ([b3] : List Nat)) [(0, 1), (1, 3), (2, 1), (3, 1), (5, 2), (4, 3), (6, 3), (7, 1), (8, 1), (9, 1), (10, 1), (11, 1), (12, 1), (13, 1)] (by kernel_rfl) (by kernel_rfl) HM7.out ?_
      intro W15 hm16
      have HM17 := Lib.hid hm16
      clear hm16
      refine wpS_loadA (i := 0) (d := some 10) (cells := rgC (a) (.slice pa a.p.2.2.length ca)) rfl (by rfl) rfl rfl (HM17.out.sub 1 rfl (fun k u h => by rw [Nat.zero_add]; exact h)) Try.underlying30 rfl (by kernel_rfl) rfl ?_
      simp only [Act.put, List.setIfInBounds_toArray, List.set_cons_succ, List.set_cons_zero]
      refine wpS_does1 (i := 1) (d := some 11) (rem := [_]) (out := [_, _]) rfl (by rfl) rfl Try.call48 (hasPlan_d R _ a ha la) rfl HM17.out [0] rfl (covS_box 0 rfl covS_nil) rfl rfl ?_
      rintro W19 hm18 hg20
      rw [hp.out]
      have HM21 := Lib.hid hm18
      clear hm18
      simp only [Act.put, List.setIfInBounds_toArray, List.set_cons_succ, List.set_cons_zero]
      refine wpS_this [2] rfl (by kernel_rfl) (by simp only [pickL, nthL, List.cons_append, List.nil_append]; rfl) ?_
      repeat (go_big_quiet_step (fail))
      refine wpQuiet_nil ?_
      refine wpS_loadA (i := 3) (d := some 13) (cells := rgC (a) (.slice pa a.p.2.2.length ca)) rfl (by rfl) rfl rfl (HM21.out.sub 1 rfl (fun k u h => by rw [Nat.zero_add]; exact h)) Try.underlying30 rfl (by kernel_rfl) rfl ?_
      simp only [Act.put, List.setIfInBounds_toArray, List.set_cons_succ, List.set_cons_zero]
      refine wpS_loadA2 (i := 5) (d := some 15) (cells := rgC (a) (.slice pa a.p.2.2.length ca)) rfl (by rfl) rfl rfl (by simp) (HM21.out.sub 1 rfl (fun k u h => by rw [Nat.zero_add]; exact h)) Try.underlying30 rfl (by kernel_rfl) rfl ?_
      simp only [Act.put, List.setIfInBounds_toArray, List.set_cons_succ, List.set_cons_zero]
      refine wpS_does1 (i := 4) (d := some 14) (rem := [_]) (out := [_, _]) rfl (by rfl) rfl Try.call49 (owners12_d R _ a ha la) rfl HM21.out [0] rfl (covS_box 0 rfl covS_nil) rfl rfl ?_
      rintro W23 hm22 hg24
      have HM25 := Lib.hid hm22
      clear hm22
      simp only [Act.put, List.setIfInBounds_toArray, List.set_cons_succ, List.set_cons_zero]
      refine wpS_does1 (i := 6) (d := some 16) (rem := [_]) (out := [_, _]) rfl (by rfl) rfl Try.call50 (targets_d R _ a ha la) rfl HM25.out [0] rfl (covS_box 0 rfl covS_nil) rfl rfl ?_
      rintro W27 hm26 hg28
      have HM29 := Lib.hid hm26
      clear hm26
      simp only [Act.put, List.setIfInBounds_toArray, List.set_cons_succ, List.set_cons_zero]
      refine wpS_read (i := 7) (d := some 17) rfl (by rfl) (run_eqA16 (ownersL_len a) (targetsL_len a) hq rfl rfl rfl) rfl ?_
      simp only [Act.put, List.setIfInBounds_toArray, List.set_cons_succ, List.set_cons_zero]
      refine wpS_this [8, 9, 10, 11, 12, 13] rfl (by kernel_rfl) (by simp only [pickL, nthL, List.cons_append, List.nil_append]; rfl) ?_
      repeat (go_big_quiet_step (fail))
      refine wpQuiet_nil ?_
      refine wpS_nil ?_
      refine then_normal ?_
      refine wp_ret ?_
      refine bodyPost_ret (results_tmp rfl _ _ _) rfl ?_
      have hc : settledR a = false := by unfold settledR; rw [hp.out, hq, h1.out]; cases decide (ofR a 3 3 ≠ []) <;> rfl
      rw [hc]
      exact does_ret (Mem.only (M := [_]) HM29.out [0] rfl) rfl rfl
    · replace hp := Lib.hid hp
      refine wp_region_M (fun k => k ∈ ([b3] : List Nat)) [(0, 1), (1, 3), (2, 1), (3, 1), (5, 2), (4, 3), (6, 3), (7, 1), (8, 1), (9, 1), (10, 1), (11, 1), (12, 1), (13, 1)] (by kernel_rfl) (by kernel_rfl) HM7.out ?_
      intro W30 hm31
      have HM32 := Lib.hid hm31
      clear hm31
      refine wpS_loadA (i := 0) (d := some 10) (cells := rgC (a) (.slice pa a.p.2.2.length ca)) rfl (by rfl) rfl rfl (HM32.out.sub 1 rfl (fun k u h => by rw [Nat.zero_add]; exact h)) Try.underlying30 rfl (by kernel_rfl) rfl ?_
      simp only [Act.put, List.setIfInBounds_toArray, List.set_cons_succ, List.set_cons_zero]
      refine wpS_does1 (i := 1) (d := some 11) (rem := [_]) (out := [_, _]) rfl (by rfl) rfl Try.call48 (hasPlan_d R _ a ha la) rfl HM32.out [0] rfl (covS_box 0 rfl covS_nil) rfl rfl ?_
      rintro W34 hm33 hg35
      rw [hp.out]
      have HM36 := Lib.hid hm33
      clear hm33
      simp only [Act.put, List.setIfInBounds_toArray, List.set_cons_succ, List.set_cons_zero]
      refine wpS_this [2] rfl (by kernel_rfl) (by simp only [pickL, nthL, List.cons_append, List.nil_append]; rfl) ?_
      repeat (go_big_quiet_step (fail))
      refine wpQuiet_nil ?_
      refine wpS_loadA (i := 3) (d := some 13) (cells := rgC (a) (.slice pa a.p.2.2.length ca)) rfl (by rfl) rfl rfl (HM36.out.sub 1 rfl (fun k u h => by rw [Nat.zero_add]; exact h)) Try.underlying30 rfl (by kernel_rfl) rfl ?_
      simp only [Act.put, List.setIfInBounds_toArray, List.set_cons_succ, List.set_cons_zero]
      refine wpS_loadA2 (i := 5) (d := some 15) (cells := rgC (a) (.slice pa a.p.2.2.length ca)) rfl (by rfl) rfl rfl (by simp) (HM36.out.sub 1 rfl (fun k u h => by rw [Nat.zero_add]; exact h)) Try.underlying30 rfl (by kernel_rfl) rfl ?_
      simp only [Act.put, List.setIfInBounds_toArray, List.set_cons_succ, List.set_cons_zero]
      refine wpS_does1 (i := 4) (d := some 14) (rem := [_]) (out := [_, _]) rfl (by rfl) rfl Try.call49 (owners12_d R _ a ha la) rfl HM36.out [0] rfl (covS_box 0 rfl covS_nil) rfl rfl ?_
      rintro W38 hm37 hg39
      have HM40 := Lib.hid hm37
      clear hm37
      simp only [Act.put, List.setIfInBounds_toArray, List.set_cons_succ, List.set_cons_zero]
      refine wpS_does1 (i := 6) (d := some 16) (rem := [_]) (out := [_, _]) rfl (by rfl) rfl Try.call50 (targets_d R _ a ha la) rfl HM40.out [0] rfl (covS_box 0 rfl covS_nil) rfl rfl ?_
      rintro W42 hm41 hg43
      have HM44 := Lib.hid hm41
      clear hm41
      simp only [Act.put, List.setIfInBounds_toArray, List.set_cons_succ, List.set_cons_zero]
      refine wpS_read (i := 7) (d := some 17) rfl (by rfl) (run_eqA16 (ownersL_len a) (targetsL_len a) hq rfl rfl rfl) rfl ?_
      simp only [Act.put, List.setIfInBounds_toArray, List.set_cons_succ, List.set_cons_zero]
      refine wpS_this [8, 9, 10, 11, 12, 13] rfl (by kernel_rfl) (by simp only [pickL, nthL, List.cons_append, List.nil_append]; rfl) ?_
      repeat (go_big_quiet_step (fail))
      refine wpQuiet_nil ?_
      refine wpS_nil ?_
      refine then_normal ?_
      refine wp_ret ?_
      refine bodyPost_ret (results_tmp rfl _ _ _) rfl ?_
      have hc : settledR a = false := by unfold settledR; rw [hp.out, hq, h1.out]; cases decide (ofR a 3 3 ≠ []) <;> rfl
      rw [hc]
      exact does_ret (Mem.only (M := [_]) HM44.out [0] rfl) rfl rfl
  · replace h1 := Lib.hid h1
    replace h3 := Lib.hid h3
    refine wp_region_N [(0, 1), (1, 3), (2, 1), (3, 1), (4, 3), (5, 1), (6, 1)] (by kernel_rfl) ?_
    refine wpS_loadA (i := 0) (d := some 4) (cells := rgC (a) (.slice pa a.p.2.2.length ca)) rfl (by rfl) rfl rfl (HM4.out.sub 0 rfl (fun k u h => by rw [Nat.zero_add]; exact h)) Try.underlying30 rfl (by kernel_rfl) rfl ?_
    simp only [Act.put, List.setIfInBounds_toArray, List.set_cons_succ, List.set_cons_zero]
    refine wpS_does2 (i := 1) (d := some 5) (rem := [_]) (out := [_, _]) rfl (by rfl) rfl Try.call47 (hasAny_d R _ a ha la 1) rfl rfl HM4.out [1] rfl covS_nil rfl rfl ?_
    rintro W46 hm45 -
    rw [h1.out]
    have HM47 := Lib.hid hm45
    clear hm45
    simp only [Act.put, List.setIfInBounds_toArray, List.set_cons_succ, List.set_cons_zero]
    refine wpS_this [2] rfl (by kernel_rfl) (by simp only [pickL, nthL, List.cons_append, List.nil_append]; rfl) ?_
    repeat (go_big_quiet_step (fail))
    refine wpQuiet_nil ?_
    refine wpS_loadA (i := 3) (d := some 7) (cells := rgC (a) (.slice pa a.p.2.2.length ca)) rfl (by rfl) rfl rfl (HM47.out.sub 1 rfl (fun k u h => by rw [Nat.zero_add]; exact h)) Try.underlying30 rfl (by kernel_rfl) rfl ?_
    simp only [Act.put, List.setIfInBounds_toArray, List.set_cons_succ, List.set_cons_zero]
    refine wpS_does2 (i := 4) (d := some 8) (rem := [_]) (out := [_, _]) rfl (by rfl) rfl Try.call47 (hasAny_d R _ a ha la 3) rfl rfl HM47.out [0] rfl covS_nil rfl rfl ?_
    rintro W49 hm48 -
    rw [h3.out]
    have HM50 := Lib.hid hm48
    clear hm48
    simp only [Act.put, List.setIfInBounds_toArray, List.set_cons_succ, List.set_cons_zero]
    refine wpS_this [5, 6] rfl (by kernel_rfl) (by simp only [pickL, nthL, List.cons_append, List.nil_append]; rfl) ?_
    repeat (go_big_quiet_step (fail))
    refine wpQuiet_nil ?_
    refine wpS_nil ?_
    refine then_normal ?_
    refine wp_seq ?_
    rcases (show hasP a = false ∨ (hasP a = true ∧ decide (ownersL a = targetsL a) = false) ∨ (hasP a = true ∧ decide (ownersL a = targetsL a) = true) from by cases hasP a <;> cases decide (ownersL a = targetsL a) <;> simp) with hp | ⟨hp, hq⟩ | ⟨hp, hq⟩
    · replace hp := Lib.hid hp
      refine wp_region_M (fun k => k ∈ ([b3] : List Nat)) [(0, 1), (1, 3), (2, 1), (3, 1), (5, 2), (4, 3), (6, 3), (7, 1), (8, 1), (9, 1), (10, 1), (11, 1), (12, 1), (13, 1)] (by kernel_rfl) (by kernel_rfl) HM50.out ?_
      intro W51 hm52
      have HM53 := Lib.hid hm52
      clear hm52
      refine wpS_loadA (i := 0) (d := some 10) (cells := rgC (a) (.slice pa a.p.2.2.length ca)) rfl (by rfl) rfl rfl (HM53.out.sub 1 rfl (fun k u h => by rw [Nat.zero_add]; exact h)) Try.underlying30 rfl (by kernel_rfl) rfl ?_
      simp only [Act.put, List.setIfInBounds_toArray, List.set_cons_succ, List.set_cons_zero]
      refine wpS_does1 (i := 1) (d := some 11) (rem := [_]) (out := [_, _]) rfl (by rfl) rfl Try.call48 (hasPlan_d R _ a ha la) rfl HM53.out [0] rfl (covS_box 0 rfl covS_nil) rfl rfl ?_
      rintro W55 hm54 hg56
      rw [hp.out]
      have HM57 := Lib.hid hm54
      clear hm54
      simp only [Act.put, List.setIfInBounds_toArray, List.set_cons_succ, List.set_cons_zero]
      refine wpS_this [2] rfl (by kernel_rfl) (by simp only [pickL, nthL, List.cons_append, List.nil_append]; rfl) ?_
      repeat (go_big_quiet_step (fail))
      refine wpQuiet_nil ?_
      refine wpS_skip (i := 3) (d := some 13) rfl (by rfl) rfl ?_
      simp only [Act.put, List.setIfInBounds_toArray, List.set_cons_succ, List.set_cons_zero]
      refine wpS_skip (i := 5) (d := some 15) rfl (by rfl) rfl ?_
      simp only [Act.put, List.setIfInBounds_toArray, List.set_cons_succ, List.set_cons_zero]
      refine wpS_skip (i := 4) (d := some 14) rfl (by rfl) rfl ?_
      simp only [Act.put, List.setIfInBounds_toArray, List.set_cons_succ, List.set_cons_zero]
      refine wpS_skip (i := 6) (d := some 16) rfl (by rfl) rfl ?_
      simp only [Act.put, List.setIfInBounds_toArray, List.set_cons_succ, List.set_cons_zero]
      refine wpS_skip (i := 7) (d := some 17) rfl (by rfl) rfl ?_
      simp only [Act.put, List.setIfInBounds_toArray, List.set_cons_succ, List.set_cons_zero]
      refine wpS_this [8, 9, 10, 11, 12, 13] rfl (by kernel_rfl) (by simp only [pickL, nthL, List.cons_append, List.nil_append]; rfl) ?_
      repeat (go_big_quiet_step (fail))
      refine wpQuiet_nil ?_
      refine wpS_nil ?_
      refine then_normal ?_
      refine wp_ret ?_
      refine bodyPost_ret (results_tmp rfl _ _ _) rfl ?_
      have hc : settledR a = false := by unfold settledR; rw [hp.out, h1.out, h3.out]; cases decide (ownersL a = targetsL a) <;> rfl
      rw [hc]
      exact does_ret (Mem.only (M := [_]) HM57.out [0] rfl) rfl rfl
    · replace hp := Lib.hid hp
      refine wp_region_M (fun k => k ∈ ([b3] : List Nat)) [(0, 1), (1, 3), (2, 1), (3, 1), (5, 2), (4, 3), (6, 3), (7, 1), (8, 1), (9, 1), (10, 1), (11, 1), (12, 1), (13, 1)] (by kernel_rfl) (by kernel_rfl) HM50.out ?_
      intro W58 hm59
      have HM60 := Lib.hid hm59
      clear hm59
      refine wpS_loadA (i := 0) (d := some 10) (cells := rgC (a) (.slice pa a.p.2.2.length ca)) rfl (by rfl) rfl rfl (HM60.out.sub 1 rfl (fun k u h => by rw [Nat.zero_add]; exact h)) Try.underlying30 rfl (by kernel_rfl) rfl ?_
      simp only [Act.put, List.setIfInBounds_toArray, List.set_cons_succ, List.set_cons_zero]
      refine wpS_does1 (i := 1) (d := some 11) (rem := [_]) (out := [_, _]) rfl (by rfl) rfl Try.call48 (hasPlan_d R _ a ha la) rfl HM60.out [0] rfl (covS_box 0 rfl covS_nil) rfl rfl ?_
      rintro W62 hm61 hg63
      rw [hp.out]
      have HM64 := Lib.hid hm61
      clear hm61
      simp only [Act.put, List.setIfInBounds_toArray, List.set_cons_succ, List.set_cons_zero]
      refine wpS_this [2] rfl (by kernel_rfl) (by simp only [pickL, nthL, List.cons_append, List.nil_append]; rfl) ?_
      repeat (go_big_quiet_step (fail))
      refine wpQuiet_nil ?_
      refine wpS_loadA (i := 3) (d := some 13) (cells := rgC (a) (.slice pa a.p.2.2.length ca)) rfl (by rfl) rfl rfl (HM64.out.sub 1 rfl (fun k u h => by rw [Nat.zero_add]; exact h)) Try.underlying30 rfl (by kernel_rfl) rfl ?_
      simp only [Act.put, List.setIfInBounds_toArray, List.set_cons_succ, List.set_cons_zero]
      refine wpS_loadA2 (i := 5) (d := some 15) (cells := rgC (a) (.slice pa a.p.2.2.length ca)) rfl (by rfl) rfl rfl (by simp) (HM64.out.sub 1 rfl (fun k u h => by rw [Nat.zero_add]; exact h)) Try.underlying30 rfl (by kernel_rfl) rfl ?_
      simp only [Act.put, List.setIfInBounds_toArray, List.set_cons_succ, List.set_cons_zero]
      refine wpS_does1 (i := 4) (d := some 14) (rem := [_]) (out := [_, _]) rfl (by rfl) rfl Try.call49 (owners12_d R _ a ha la) rfl HM64.out [0] rfl (covS_box 0 rfl covS_nil) rfl rfl ?_
      rintro W66 hm65 hg67
      have HM68 := Lib.hid hm65
      clear hm65
      simp only [Act.put, List.setIfInBounds_toArray, List.set_cons_succ, List.set_cons_zero]
      refine wpS_does1 (i := 6) (d := some 16) (rem := [_]) (out := [_, _]) rfl (by rfl) rfl Try.call50 (targets_d R _ a ha la) rfl HM68.out [0] rfl (covS_box 0 rfl covS_nil) rfl rfl ?_
      rintro W70 hm69 hg71
      have HM72 := Lib.hid hm69
      clear hm69
      simp only [Act.put, List.setIfInBounds_toArray, List.set_cons_succ, List.set_cons_zero]
      refine wpS_read (i := 7) (d := some 17) rfl (by rfl) (run_eqA16 (ownersL_len a) (targetsL_len a) hq rfl rfl rfl) rfl ?_
      simp only [Act.put, List.setIfInBounds_toArray, List.set_cons_succ, List.set_cons_zero]
      refine wpS_this [8, 9, 10, 11, 12, 13] rfl (by kernel_rfl) (by simp only [pickL, nthL, List.cons_append, List.nil_append]; rfl) ?_
      repeat (go_big_quiet_step (fail))
      refine wpQuiet_nil ?_
      refine wpS_nil ?_
      refine then_normal ?_
      refine wp_ret ?_
      refine bodyPost_ret (results_tmp rfl _ _ _) rfl ?_
      have hc : settledR a = false := by unfold settledR; rw [hp.out, hq, h1.out, h3.out]; rfl
      rw [hc]
      exact does_ret (Mem.only (M := [_]) HM72.out [0] rfl) rfl rfl
    · replace hp := Lib.hid hp
      refine wp_region_M (fun k => k ∈ ([b3] : List Nat)) [(0, 1), (1, 3), (2, 1), (3, 1), (5, 2), (4, 3), (6, 3), (7, 1), (8, 1), (9, 1), (10, 1), (11, 1), (12, 1), (13, 1)] (by kernel_rfl) (by kernel_rfl) HM50.out ?_
      intro W73 hm74
      have HM75 := Lib.hid hm74
      clear hm74
      refine wpS_loadA (i := 0) (d := some 10) (cells := rgC (a) (.slice pa a.p.2.2.length ca)) rfl (by rfl) rfl rfl (HM75.out.sub 1 rfl (fun k u h => by rw [Nat.zero_add]; exact h)) Try.underlying30 rfl (by kernel_rfl) rfl ?_
      simp only [Act.put, List.setIfInBounds_toArray, List.set_cons_succ, List.set_cons_zero]
      refine wpS_does1 (i := 1) (d := some 11) (rem := [_]) (out := [_, _]) rfl (by rfl) rfl Try.call48 (hasPlan_d R _ a ha la) rfl HM75.out [0] rfl (covS_box 0 rfl covS_nil) rfl rfl ?_
      rintro W77 hm76 hg78
      rw [hp.out]
      have HM79 := Lib.hid hm76
      clear hm76
      simp only [Act.put, List.setIfInBounds_toArray, List.set_cons_succ, List.set_cons_zero]
      refine wpS_this [2] rfl (by kernel_rfl) (by simp only [pickL, nthL, List.cons_append, List.nil_append]; rfl) ?_
      repeat (go_big_quiet_step (fail))
      refine wpQuiet_nil ?_
      refine wpS_loadA (i := 3) (d := some 13) (cells := rgC (a) (.slice pa a.p.2.2.length ca)) rfl (by rfl) rfl rfl (HM79.out.sub 1 rfl (fun k u h => by rw [Nat.zero_add]; exact h)) Try.underlying30 rfl (by kernel_rfl) rfl ?_
      simp only [Act.put, List.setIfInBounds_toArray, List.set_cons_succ, List.set_cons_zero]
      refine wpS_loadA2 (i := 5) (d := some 15) (cells := rgC (a) (.slice pa a.p.2.2.length ca)) rfl (by rfl) rfl rfl (by simp) (HM79.out.sub 1 rfl (fun k u h => by rw [Nat.zero_add]; exact h)) Try.underlying30 rfl (by kernel_rfl) rfl ?_
      simp only [Act.put, List.setIfInBounds_toArray, List.set_cons_succ, List.set_cons_zero]
      refine wpS_does1 (i := 4) (d := some 14) (rem := [_]) (out := [_, _]) rfl (by rfl) rfl Try.call49 (owners12_d R _ a ha la) rfl HM79.out [0] rfl (covS_box 0 rfl covS_nil) rfl rfl ?_
      rintro W81 hm80 hg82
      have HM83 := Lib.hid hm80
      clear hm80
      simp only [Act.put, List.setIfInBounds_toArray, List.set_cons_succ, List.set_cons_zero]
      refine wpS_does1 (i := 6) (d := some 16) (rem := [_]) (out := [_, _]) rfl (by rfl) rfl Try.call50 (targets_d R _ a ha la) rfl HM83.out [0] rfl (covS_box 0 rfl covS_nil) rfl rfl ?_
      rintro W85 hm84 hg86
      have HM87 := Lib.hid hm84
      clear hm84
      simp only [Act.put, List.setIfInBounds_toArray, List.set_cons_succ, List.set_cons_zero]
      refine wpS_read (i := 7) (d := some 17) rfl (by rfl) (run_eqA16 (ownersL_len a) (targetsL_len a) hq rfl rfl rfl) rfl ?_
      simp only [Act.put, List.setIfInBounds_toArray, List.set_cons_succ, List.set_cons_zero]
      refine wpS_this [8, 9, 10, 11, 12, 13] rfl (by kernel_rfl) (by simp only [pickL, nthL, List.cons_append, List.nil_append]; rfl) ?_
      repeat (go_big_quiet_step (fail))
      refine wpQuiet_nil ?_
      refine wpS_nil ?_
      refine then_normal ?_
      refine wp_ret ?_
      refine bodyPost_ret (results_tmp rfl _ _ _) rfl ?_
      have hc : settledR a = false := by unfold settledR; rw [hp.out, hq, h1.out, h3.out]; rfl
      rw [hc]
      exact does_ret (Mem.only (M := [_]) HM87.out [0] rfl) rfl rfl
  · replace h1 := Lib.hid h1
    replace h3 := Lib.hid h3
    refine wp_region_N [(0, 1), (1, 3), (2, 1), (3, 1), (4, 3), (5, 1), (6, 1)] (by kernel_rfl) ?_
    refine wpS_loadA (i := 0) (d := some 4) (cells := rgC (a) (.slice pa a.p.2.2.length ca)) rfl (by rfl) rfl rfl (HM4.out.sub 0 rfl (fun k u h => by rw [Nat.zero_add]; exact h)) Try.underlying30 rfl (by kernel_rfl) rfl ?_
    simp only [Act.put, List.setIfInBounds_toArray, List.set_cons_succ, List.set_cons_zero]
    refine wpS_does2 (i := 1) (d := some 5) (rem := [_]) (out := [_, _]) rfl (by rfl) rfl Try.call47 (hasAny_d R _ a ha la 1) rfl rfl HM4.out [1] rfl covS_nil rfl rfl ?_
    rintro W89 hm88 -
    rw [h1.out]
    have HM90 := Lib.hid hm88
    clear hm88
    simp only [Act.put, List.setIfInBounds_toArray, List.set_cons_succ, List.set_cons_zero]
    refine wpS_this [2] rfl (by kernel_rfl) (by simp only [pickL, nthL, List.cons_append, List.nil_append]; rfl) ?_
    repeat (go_big_quiet_step (fail))
    refine wpQuiet_nil ?_
    refine wpS_loadA (i := 3) (d := some 7) (cells := rgC (a) (.slice pa a.p.2.2.length ca)) rfl (by rfl) rfl rfl (HM90.out.sub 1 rfl (fun k u h => by rw [Nat.zero_add]; exact h)) Try.underlying30 rfl (by kernel_rfl) rfl ?_
    simp only [Act.put, List.setIfInBounds_toArray, List.set_cons_succ, List.set_cons_zero]
    refine wpS_does2 (i := 4) (d := some 8) (rem := [_]) (out := [_, _]) rfl (by rfl) rfl Try.call47 (hasAny_d R _ a ha la 3) rfl rfl HM90.out [0] rfl covS_nil rfl rfl ?_
    rintro W92 hm91 -
    rw [h3.out]
    have HM93 := Lib.hid hm91
    clear hm91
    simp only [Act.put, List.setIfInBounds_toArray, List.set_cons_succ, List.set_cons_zero]
    refine wpS_this [5, 6] rfl (by kernel_rfl) (by simp only [pickL, nthL, List.cons_append, List.nil_append]; rfl) ?_
    repeat (go_big_quiet_step (fail))
    refine wpQuiet_nil ?_
    refine wpS_nil ?_
    refine then_normal ?_
    refine wp_seq ?_
    rcases (show hasP a = false ∨ (hasP a = true ∧ decide (ownersL a = targetsL a) = false) ∨ (hasP a = true ∧ decide (ownersL a = targetsL a) = true) from by cases hasP a <;> cases decide (ownersL a = targetsL a) <;> simp) with hp | ⟨hp, hq⟩ | ⟨hp, hq⟩
    · replace hp := Lib.hid hp
      refine wp_region_M (fun k => k ∈ ([b3] : List Nat)) [(0, 1), (1, 3), (2, 1), (3, 1), (5, 2), (4, 3), (6, 3), (7, 1), (8, 1), (9, 1), (10, 1), (11, 1), (12, 1), (13, 1)] (by kernel_rfl) (by kernel_rfl) HM93.out ?_
      intro W94 hm95
      have HM96 := Lib.hid hm95
      clear hm95
      refine wpS_loadA (i := 0) (d := some 10) (cells := rgC (a) (.slice pa a.p.2.2.length ca)) rfl (by rfl) rfl rfl (HM96.out.sub 1 rfl (fun k u h => by rw [Nat.zero_add]; exact h)) Try.underlying30 rfl (by kernel_rfl) rfl ?_
      simp only [Act.put, List.setIfInBounds_toArray, List.set_cons_succ, List.set_cons_zero]
      refine wpS_does1 (i := 1) (d := some 11) (rem := [_]) (out := [_, _]) rfl (by rfl) rfl Try.call48 (hasPlan_d R _ a ha la) rfl HM96.out [0] rfl (covS_box 0 rfl covS_nil) rfl rfl ?_
      rintro W98 hm97 hg99
      rw [hp.out]
      have HM100 := Lib.hid hm97
      clear hm97
      simp only [Act.put, List.setIfInBounds_toArray, List.set_cons_succ, List.set_cons_zero]
      refine wpS_this [2] rfl (by kernel_rfl) (by simp only [pickL, nthL, List.cons_append, List.nil_append]; rfl) ?_
      repeat (go_big_quiet_step (fail))
      refine wpQuiet_nil ?_
      refine wpS_skip (i := 3) (d := some 13) rfl (by rfl) rfl ?_
      simp only [Act.put, List.setIfInBounds_toArray, List.set_cons_succ, List.set_cons_zero]
      refine wpS_skip (i := 5) (d := some 15) rfl (by rfl) rfl ?_
      simp only [Act.put, List.setIfInBounds_toArray, List.set_cons_succ, List.set_cons_zero]
      refine wpS_skip (i := 4) (d := some 14) rfl (by rfl) rfl ?_
      simp only [Act.put, List.setIfInBounds_toArray, List.set_cons_succ, List.set_cons_zero]
      refine wpS_skip (i := 6) (d := some 16) rfl (by rfl) rfl ?_
      simp only [Act.put, List.setIfInBounds_toArray, List.set_cons_succ, List.set_cons_zero]
      refine wpS_skip (i := 7) (d := some 17) rfl (by rfl) rfl ?_
      simp only [Act.put, List.setIfInBounds_toArray, List.set_cons_succ, List.set_cons_zero]
      refine wpS_this [8, 9, 10, 11, 12, 13] rfl (by kernel_rfl) (by simp only [pickL, nthL, List.cons_append, List.nil_append]; rfl) ?_
      repeat (go_big_quiet_step (fail))
      refine wpQuiet_nil ?_
      refine wpS_nil ?_
      refine then_normal ?_
      refine wp_ret ?_
      refine bodyPost_ret (results_tmp rfl _ _ _) rfl ?_
      have hc : settledR a = false := by unfold settledR; rw [hp.out, h1.out, h3.out]; cases decide (ownersL a = targetsL a) <;> rfl
      rw [hc]
      exact does_ret (Mem.only (M := [_]) HM100.out [0] rfl) rfl rfl
    · replace hp := Lib.hid hp
      refine wp_region_M (fun k => k ∈ ([b3] : List Nat)) [(0, 1), (1, 3), (2, 1), (3, 1), (5, 2), (4, 3), (6, 3), (7, 1), (8, 1), (9, 1), (10, 1), (11, 1), (12, 1), (13, 1)] (by kernel_rfl) (by kernel_rfl) HM93.out ?_
      intro W101 hm102
      have HM103 := Lib.hid hm102
      clear hm102
      refine wpS_loadA (i := 0) (d := some 10) (cells := rgC (a) (.slice pa a.p.2.2.length ca)) rfl (by rfl) rfl rfl (HM103.out.sub 1 rfl (fun k u h => by rw [Nat.zero_add]; exact h)) Try.underlying30 rfl (by kernel_rfl) rfl ?_
      simp only [Act.put, List.setIfInBounds_toArray, List.set_cons_succ, List.set_cons_zero]
      refine wpS_does1 (i := 1) (d := some 11) (rem := [_]) (out := [_, _]) rfl (by rfl) rfl Try.call48 (hasPlan_d R _ a ha la) rfl HM103.out [0] rfl (covS_box 0 rfl covS_nil) rfl rfl ?_
      rintro W105 hm104 hg106
      rw [hp.out]
      have HM107 := Lib.hid hm104
      clear hm104
      simp only [Act.put, List.setIfInBounds_toArray, List.set_cons_succ, List.set_cons_zero]
      refine wpS_this [2] rfl (by kernel_rfl) (by simp only [pickL, nthL, List.cons_append, List.nil_append]; rfl) ?_
      repeat (go_big_quiet_step (fail))
      refine wpQuiet_nil ?_
      refine wpS_loadA (i := 3) (d := some 13) (cells := rgC (a) (.slice pa a.p.2.2.length ca)) rfl (by rfl) rfl rfl (HM107.out.sub 1 rfl (fun k u h => by rw [Nat.zero_add]; exact h)) Try.underlying30 rfl (by kernel_rfl) rfl ?_
      simp only [Act.put, List.setIfInBounds_toArray, List.set_cons_succ, List.set_cons_zero]
      refine wpS_loadA2 (i := 5) (d := some 15) (cells := rgC (a) (.slice pa a.p.2.2.length ca)) rfl (by rfl) rfl rfl (by simp) (HM107.out.sub 1 rfl (fun k u h => by rw [Nat.zero_add]; exact h)) Try.underlying30 rfl (by kernel_rfl) rfl ?_
      simp only [Act.put, List.setIfInBounds_toArray, List.set_cons_succ, List.set_cons_zero]
      refine wpS_does1 (i := 4) (d := some 14) (rem := [_]) (out := [_, _]) rfl (by rfl) rfl Try.call49 (owners12_d R _ a ha la) rfl HM107.out [0] rfl (covS_box 0 rfl covS_nil) rfl rfl ?_
      rintro W109 hm108 hg110
      have HM111 := Lib.hid hm108
      clear hm108
      simp only [Act.put, List.setIfInBounds_toArray, List.set_cons_succ, List.set_cons_zero]
      refine wpS_does1 (i := 6) (d := some 16) (rem := [_]) (out := [_, _]) rfl (by rfl) rfl Try.call50 (targets_d R _ a ha la) rfl HM111.out [0] rfl (covS_box 0 rfl covS_nil) rfl rfl ?_
      rintro W113 hm112 hg114
      have HM115 := Lib.hid hm112
      clear hm112
      simp only [Act.put, List.setIfInBounds_toArray, List.set_cons_succ, List.set_cons_zero]
      refine wpS_read (i := 7) (d := some 17) rfl (by rfl) (run_eqA16 (ownersL_len a) (targetsL_len a) hq rfl rfl rfl) rfl ?_
      simp only [Act.put, List.setIfInBounds_toArray, List.set_cons_succ, List.set_cons_zero]
      refine wpS_this [8, 9, 10, 11, 12, 13] rfl (by kernel_rfl) (by simp only [pickL, nthL, List.cons_append, List.nil_append]; rfl) ?_
      repeat (go_big_quiet_step (fail))
      refine wpQuiet_nil ?_
      refine wpS_nil ?_
      refine then_normal ?_
      refine wp_ret ?_
      refine bodyPost_ret (results_tmp rfl _ _ _) rfl ?_
      have hc : settledR a = false := by unfold settledR; rw [hp.out, hq, h1.out, h3.out]; rfl
      rw [hc]
      exact does_ret (Mem.only (M := [_]) HM115.out [0] rfl) rfl rfl
    · replace hp := Lib.hid hp
      refine wp_region_M (fun k => k ∈ ([b3] : List Nat)) [(0, 1), (1, 3), (2, 1), (3, 1), (5, 2), (4, 3), (6, 3), (7, 1), (8, 1), (9, 1), (10, 1), (11, 1), (12, 1), (13, 1)] (by kernel_rfl) (by kernel_rfl) HM93.out ?_
      intro W116 hm117
      have HM118 := Lib.hid hm117
      clear hm117
      refine wpS_loadA (i := 0) (d := some 10) (cells := rgC (a) (.slice pa a.p.2.2.length ca)) rfl (by rfl) rfl rfl (HM118.out.sub 1 rfl (fun k u h => by rw [Nat.zero_add]; exact h)) Try.underlying30 rfl (by kernel_rfl) rfl ?_
      simp only [Act.put, List.setIfInBounds_toArray, List.set_cons_succ, List.set_cons_zero]
      refine wpS_does1 (i := 1) (d := some 11) (rem := [_]) (out := [_, _]) rfl (by rfl) rfl Try.call48 (hasPlan_d R _ a ha la) rfl HM118.out [0] rfl (covS_box 0 rfl covS_nil) rfl rfl ?_
      rintro W120 hm119 hg121
      rw [hp.out]
      have HM122 := Lib.hid hm119
      clear hm119
      simp only [Act.put, List.setIfInBounds_toArray, List.set_cons_succ, List.set_cons_zero]
      refine wpS_this [2] rfl (by kernel_rfl) (by simp only [pickL, nthL, List.cons_append, List.nil_append]; rfl) ?_
      repeat (go_big_quiet_step (fail))
      refine wpQuiet_nil ?_
      refine wpS_loadA (i := 3) (d := some 13) (cells := rgC (a) (.slice pa a.p.2.2.length ca)) rfl (by rfl) rfl rfl (HM122.out.sub 1 rfl (fun k u h => by rw [Nat.zero_add]; exact h)) Try.underlying30 rfl (by kernel_rfl) rfl ?_
      simp only [Act.put, List.setIfInBounds_toArray, List.set_cons_succ, List.set_cons_zero]
      refine wpS_loadA2 (i := 5) (d := some 15) (cells := rgC (a) (.slice pa a.p.2.2.length ca)) rfl (by rfl) rfl rfl (by simp) (HM122.out.sub 1 rfl (fun k u h => by rw [Nat.zero_add]; exact h)) Try.underlying30 rfl (by kernel_rfl) rfl ?_
      simp only [Act.put, List.setIfInBounds_toArray, List.set_cons_succ, List.set_cons_zero]
      refine wpS_does1 (i := 4) (d := some 14) (rem := [_]) (out := [_, _]) rfl (by rfl) rfl Try.call49 (owners12_d R _ a ha la) rfl HM122.out [0] rfl (covS_box 0 rfl covS_nil) rfl rfl ?_
      rintro W124 hm123 hg125
      have HM126 := Lib.hid hm123
      clear hm123
      simp only [Act.put, List.setIfInBounds_toArray, List.set_cons_succ, List.set_cons_zero]
      refine wpS_does1 (i := 6) (d := some 16) (rem := [_]) (out := [_, _]) rfl (by rfl) rfl Try.call50 (targets_d R _ a ha la) rfl HM126.out [0] rfl (covS_box 0 rfl covS_nil) rfl rfl ?_
      rintro W128 hm127 hg129
      have HM130 := Lib.hid hm127
      clear hm127
      simp only [Act.put, List.setIfInBounds_toArray, List.set_cons_succ, List.set_cons_zero]
      refine wpS_read (i := 7) (d := some 17) rfl (by rfl) (run_eqA16 (ownersL_len a) (targetsL_len a) hq rfl rfl rfl) rfl ?_
      simp only [Act.put, List.setIfInBounds_toArray, List.set_cons_succ, List.set_cons_zero]
      refine wpS_this [8, 9, 10, 11, 12, 13] rfl (by kernel_rfl) (by simp only [pickL, nthL, List.cons_append, List.nil_append]; rfl) ?_
      repeat (go_big_quiet_step (fail))
      refine wpQuiet_nil ?_
      refine wpS_nil ?_
      refine then_normal ?_
      refine wp_ret ?_
      refine bodyPost_ret (results_tmp rfl _ _ _) rfl ?_
      have hc : settledR a = true := by unfold settledR; rw [hp.out, hq, h1.out, h3.out]; rfl
      rw [hc]
      exact does_ret (Mem.only (M := [_]) HM130.out [0] rfl) rfl rfl

set_option maxHeartbeats 4000000 in
set_option maxRecDepth 100000 in
theorem withm_d (R : At) (va : Value) (a : Rg) (ha : Reads elemI R va a.p.2.2) (la : a.p.2.2.length ≤ 1000) (me : Int) (b : Rg) (e : Int) (hf : withR a me = (b, e)) : DoesU Try.prog 25 #[rgV a va, .int .i64 me] [R] (fun u => [withT u b e R]) := by
  intro w H hp
  have HM0 := Lib.hid (mem_refl hp)
  clear hp
  obtain ⟨pa, ca, rfl⟩ := row_form (Mem.src HM0.out 0 rfl ha)
  go_enter Try.func25, Try.ntmps25
  refine wp_seq ?_
  obtain ⟨M, hM'⟩ : ∃ y, ofR a 1 2 = y := ⟨_, rfl⟩
  have hMl : M.length ≤ 8 := by rw [← hM']; exact ofR_le a 1 2
  have hM := Lib.hid hM'
  clear hM'
  obtain ⟨t, ht'⟩ : ∃ y, assignOf (nowL a) M = y := ⟨_, rfl⟩
  have ht := Lib.hid ht'
  clear ht'
  have hpe : Hid (assignOf (nowL a) (peersOf M (-1)) = t) := Lib.hid (by rw [← hM.out, ofR_peers, hM.out]; exact ht.out)
  refine wp_region_N [(0, 3), (1, 3), (2, 1)] (by kernel_rfl) ?_
  refine wpS_boxA (i := 0) (dd := 2) rfl (by rfl) rfl rfl HM0.out covS_nil rfl ?_
  rintro b3 W2 hm1 -
  have HM4 := Lib.hid hm1
  clear hm1
  simp only [Act.put, List.setIfInBounds_toArray, List.set_cons_succ, List.set_cons_zero]
  refine wpS_alloc (i := 1) (dd := 4) (z := rgV noR (.slice none 0 0)) (cs := (rgC noR (.slice none 0 0)).toArray) rfl (by rfl) rfl (by kernel_rfl) rfl HM4.out covS_nil rfl ?_
  rintro b7 W6 hm5 -
  have HM8 := Lib.hid hm5
  clear hm5
  simp only [Act.put, List.setIfInBounds_toArray, List.set_cons_succ, List.set_cons_zero]
  refine wpS_this [2] rfl (by kernel_rfl) (by simp only [pickL, nthL, List.cons_append, List.nil_append]; rfl) ?_
  repeat (go_big_quiet_step (fail))
  refine wpQuiet_nil ?_
  refine wpS_nil ?_
  refine then_normal ?_
  refine wp_seq ?_
  refine wp_region_N [(0, 1), (1, 3), (2, 1)] (by kernel_rfl) ?_
  refine wpS_loadA (i := 0) (d := some 13) (cells := rgC (a) (.slice pa a.p.2.2.length ca)) rfl (by rfl) rfl rfl (HM8.out.sub 1 rfl (fun k u h => by rw [Nat.zero_add]; exact h)) Try.underlying30 rfl (by kernel_rfl) rfl ?_
  simp only [Act.put, List.setIfInBounds_toArray, List.set_cons_succ, List.set_cons_zero]
  refine wpS_doesU3 (i := 1) (d := some 14) (rem := [_, _]) rfl (by rfl) rfl Try.call15 (gof_d R _ a ha la 1 2) rfl rfl rfl HM8.out [2] rfl covS_nil (fun _ => rfl) rfl ?_
  rintro u11 W10 hm9 -
  rw [hM.out] at hm9
  obtain ⟨pM, cM, rfl⟩ := row_form (Mem.src hm9 0 rfl rowT_reads)
  have HM12 := Lib.hid hm9
  clear hm9
  simp only [Act.put, List.setIfInBounds_toArray, List.set_cons_succ, List.set_cons_zero]
  refine wpS_this [2] rfl (by kernel_rfl) (by simp only [pickL, nthL, List.cons_append, List.nil_append]; rfl) ?_
  repeat (go_big_quiet_step (fail))
  refine wpQuiet_nil ?_
  refine wpS_nil ?_
  refine then_normal ?_
  refine wp_seq ?_
  refine wp_seq ?_
  by_cases h0 : M.length = 0
  · have g1 : ((M.length : Int) == 0) = true := beq_iff_eq.2 (by omega)
    have hq := hf.symm.trans (with_nil (n := me) (hM.out.trans (List.eq_nil_of_length_eq_zero h0)))
    have q1 := (Prod.mk.inj hq).1
    have q2 := (Prod.mk.inj hq).2
    subst b
    subst q2
    clear hq hf
    refine wp_region_N [(0, 1), (1, 1), (2, 1)] (by kernel_rfl) ?_
    refine wpS_this [0, 1, 2] rfl (by kernel_rfl) (by simp only [pickL, nthL, List.cons_append, List.nil_append]; rfl) ?_
    repeat (go_big_quiet_step (fail))
    refine wpQuiet_nil ?_
    refine wpS_nil ?_
    refine then_normal ?_
    refine wp_cond_true rfl ?_
    refine wp_seq ?_
    refine wp_region_N [(0, 1), (1, 3), (2, 1)] (by kernel_rfl) ?_
    refine wpS_loadA (i := 0) (d := some 18) (cells := rgC (a) (.slice pa a.p.2.2.length ca)) rfl (by rfl) rfl rfl (HM12.out.sub 3 rfl (fun k u h => by rw [Nat.zero_add]; exact h)) Try.underlying30 rfl (by kernel_rfl) rfl ?_
    simp only [Act.put, List.setIfInBounds_toArray, List.set_cons_succ, List.set_cons_zero]
    refine wpS_storeA (i := 1) (L2 := [_, _, _]) (cs' := rgC (a) (.slice pa a.p.2.2.length ca)) rfl (by rfl) rfl rfl rfl (by kernel_rfl) (rgC_one _ _ _) HM12.out 2 rfl rfl (by kernel_rfl) (by kernel_rfl) covS_nil rfl ?_
    rintro W14 hm13 -
    have HM15 := Lib.hid hm13
    clear hm13
    refine wpS_this [2] rfl (by kernel_rfl) (by simp only [pickL, nthL, List.cons_append, List.nil_append]; rfl) ?_
    repeat (go_big_quiet_step (fail))
    refine wpQuiet_nil ?_
    refine wpS_nil ?_
    refine then_normal ?_
    refine wp_ret ?_
    refine then_ret ?_
    refine ret_cell_tmp rfl HM15.out 0 rfl rfl Try.underlying30 rfl (by kernel_rfl) rfl rfl ?_
    exact doesU_ret (post := fun u => [withT u a 0 R]) (Mem.toWith (X := rowT elemI (.slice none 0 0) []) (srcL 1 rfl ha) (Mem.nilRow elemI (Mem.only (M := [_]) HM15.out [2] rfl))) rfl
  · have g1 : ((M.length : Int) == 0) = false := beq_eq_false_iff_ne.2 (by omega)
    have hne : Hid (M ≠ []) := Lib.hid (fun e => h0 (by rw [e]; rfl))
    have htl : t.length = 16 := by rw [← ht.out]; exact (assigned (by rw [← hM.out]; exact ofR_ok a 1 2) hne.out).len
    have htl' : t.length ≤ 1000 := by omega
    refine wp_region_N [(0, 1), (1, 1), (2, 1)] (by kernel_rfl) ?_
    refine wpS_this [0, 1, 2] rfl (by kernel_rfl) (by simp only [pickL, nthL, List.cons_append, List.nil_append]; rfl) ?_
    repeat (go_big_quiet_step (fail))
    refine wpQuiet_nil ?_
    refine wpS_nil ?_
    refine then_normal ?_
    refine wp_cond_false rfl ?_
    refine wp_skip ?_
    refine then_normal ?_
    refine wp_seq ?_
    refine wp_region_N [(0, 1), (1, 3), (2, 3), (3, 3)] (by kernel_rfl) ?_
    refine wpS_loadA (i := 0) (d := some 19) (cells := rgC (a) (.slice pa a.p.2.2.length ca)) rfl (by rfl) rfl rfl (HM12.out.sub 3 rfl (fun k u h => by rw [Nat.zero_add]; exact h)) Try.underlying30 rfl (by kernel_rfl) rfl ?_
    simp only [Act.put, List.setIfInBounds_toArray, List.set_cons_succ, List.set_cons_zero]
    refine wpS_does1 (i := 1) (d := some 20) (rem := [_, _, _]) (out := [_, _, _, _]) rfl (by rfl) rfl Try.call57 (present_d R _ a ha la) rfl HM12.out [1] rfl covS_nil rfl rfl ?_
    rintro W17 hm16 -
    have HM18 := Lib.hid hm16
    clear hm16
    simp only [Act.put, List.setIfInBounds_toArray, List.set_cons_succ, List.set_cons_zero]
    refine wpS_alloc (i := 2) (dd := 7) (z := aV (List.replicate 16 0)) (cs := (((List.replicate 16 0) : List Int).map iV).toArray) rfl (by rfl) rfl (by kernel_rfl) rfl HM18.out covS_nil rfl ?_
    rintro nb W20 hm19 -
    have HM21 := Lib.hid hm19
    clear hm19
    simp only [Act.put, List.setIfInBounds_toArray, List.set_cons_succ, List.set_cons_zero]
    refine wpS_storeArr (i := 3) (L2 := [_, _, _, _]) is16 rfl (by rfl) rfl rfl rfl HM21.out 0 rfl rfl (List.length_replicate) (nowL_len a) covS_nil rfl ?_
    rintro W23 hm22 -
    have HM24 := Lib.hid hm22
    clear hm22
    refine wpS_nil ?_
    refine then_normal ?_
    refine wp_seq ?_
    refine wp_region_N [(0, 1), (1, 1), (2, 3), (3, 1)] (by kernel_rfl) ?_
    refine wpS_sliceArr (i := 0) (d := some 21) (b := nb) is16 rfl (by rfl) rfl rfl (by decide) rfl ?_
    simp only [Act.put, List.setIfInBounds_toArray, List.set_cons_succ, List.set_cons_zero]
    refine wpS_this [1] rfl (by kernel_rfl) (by simp only [pickL, nthL, List.cons_append, List.nil_append]; rfl) ?_
    repeat (go_big_quiet_step (fail))
    refine wpQuiet_nil ?_
    refine wpS_doesU2 (i := 2) (d := some 23) (rem := [_, _, _]) rfl (by rfl) rfl Try.call18 (DoesU.ofList (assign_d (listT [_, _]) _ _ (nowL a) M (rowL 0 rfl (arr_reads (nowL_len a))) (rowL 1 rfl rowOwn) (by omega))) rfl rfl HM24.out [0, 1] rfl covS_nil (fun _ => rfl) rfl ?_
    rintro u27 W26 hm25 -
    rw [hpe.out] at hm25
    obtain ⟨pt, ct, rfl⟩ := row_form (Mem.src hm25 0 rfl rdRow_src)
    have HM28 := Lib.hid hm25
    clear hm25
    simp only [Act.put, List.setIfInBounds_toArray, List.set_cons_succ, List.set_cons_zero]
    refine wpS_this [3] rfl (by kernel_rfl) (by simp only [pickL, nthL, List.cons_append, List.nil_append]; rfl) ?_
    repeat (go_big_quiet_step (fail))
    refine wpQuiet_nil ?_
    refine wpS_nil ?_
    refine then_normal ?_
    refine wp_seq ?_
    refine wp_seq ?_
    by_cases hte : t = a.p.2.2
    · have hd : Hid (decide (t = a.p.2.2) = true) := Lib.hid (decide_eq_true hte)
      have hq := hf.symm.trans (with_eq hM.out ht.out hne.out hte)
      have q1 := (Prod.mk.inj hq).1
      have q2 := (Prod.mk.inj hq).2
      subst q1
      subst q2
      clear hq hf
      replace hte := Lib.hid hte
      refine wp_region_N [(0, 1), (1, 1), (2, 1), (3, 1), (4, 3), (5, 1)] (by kernel_rfl) ?_
      refine wpS_this [0, 1, 2] rfl (by kernel_rfl) (by simp only [pickL, nthL, List.cons_append, List.nil_append]; rfl) ?_
      repeat (go_big_quiet_step (fail))
      refine wpQuiet_nil ?_
      refine wpS_load1 (i := 3) (d := some 27) (u := .slice pa a.p.2.2.length ca) rfl (by rfl) rfl rfl (HM28.out.sub1 5 rfl (rgC_pl 2 _ rfl)) Try.underlying23 rfl rfl ?_
      simp only [Act.put, List.setIfInBounds_toArray, List.set_cons_succ, List.set_cons_zero]
      refine wpS_does2 (i := 4) (d := some 28) (rem := [_, _, _, _]) (out := [_, _, _, _, _, _]) rfl (by rfl) rfl Try.call58 (Does.ofList (sequal_d (listT [_, _]) _ _ t a.p.2.2 (rowL 0 rfl rdRow_reads) (rowL 1 rfl ha.row) (by omega))) rfl rfl HM28.out [0, 2] rfl covS_nil rfl rfl ?_
      rintro W30 hm29 -
      rw [hd.out]
      have HM31 := Lib.hid hm29
      clear hm29
      simp only [Act.put, List.setIfInBounds_toArray, List.set_cons_succ, List.set_cons_zero]
      refine wpS_this [5] rfl (by kernel_rfl) (by simp only [pickL, nthL, List.cons_append, List.nil_append]; rfl) ?_
      repeat (go_big_quiet_step (fail))
      refine wpQuiet_nil ?_
      refine wpS_nil ?_
      refine then_normal ?_
      refine wp_cond_false rfl ?_
      refine wp_skip ?_
      refine then_normal ?_
      refine wp_seq ?_
      refine wp_seq ?_
      refine wp_region_N [(0, 1), (1, 1), (2, 1)] (by kernel_rfl) ?_
      refine wpS_this [0, 1, 2] rfl (by kernel_rfl) (by simp only [pickL, nthL, List.cons_append, List.nil_append]; rfl) ?_
      repeat (go_big_quiet_step (fail))
      refine wpQuiet_nil ?_
      refine wpS_nil ?_
      refine then_normal ?_
      refine wp_block ?_
      refine wp_loop_F [12, 46, 47, 48, 49, 50, 51, 52, 53] (fun n vs W' => ∃ k : Nat, n = M.length - k ∧ vs 46 = .int .i64 (k : Int) ∧ k ≤ M.length ∧ Mem [boxT b3 (.cells (rgC ⟨setG M (fun _ => true) 2 a.s k, a.p, a.e⟩ (.slice pa a.p.2.2.length ca)).toArray 30 (0, 0)), boxT b7 (.cells (rgC noR (.slice none 0 0)).toArray 30 (0, 0)), rowT elemI (.slice pM M.length cM) M, R] H w W') (n0 := M.length) ?_ ?_
      · refine ⟨0, rfl, rfl, Nat.zero_le _, ?_⟩
        rw [setG_zero]
        exact (Mem.only (M := [_, _, _, _]) HM31.out [5, 4, 3, 1] rfl)
      rintro n vs W' ⟨k, rfl, e46, hk, hm⟩
      simp only [putAll, List.map_cons, List.map_nil, Act.put, List.setIfInBounds_toArray, List.set_cons_succ, List.set_cons_zero]
      rw [e46]
      clear e46
      have HM32 := Lib.hid hm
      clear hm
      refine wp_seq ?_
      refine wp_region_N [(0, 1)] (by kernel_rfl) ?_
      refine wpS_this [0] rfl (by kernel_rfl) (by simp only [pickL, nthL, List.cons_append, List.nil_append]; rfl) ?_
      repeat (go_big_quiet_step (fail))
      refine wpQuiet_nil ?_
      refine wpS_nil ?_
      refine then_normal ?_
      refine wp_seq ?_
      refine wp_cond_split rfl (fun h33 => ?_) (fun h33 => ?_)
      · have hk1 : k + 1 ≤ M.length := by have : (k : Int) < ((M.length : Nat) : Int) := (by simpa using h33); omega
        clear h33
        obtain ⟨x, hx0⟩ : ∃ y, M[k]? = some y := ⟨_, List.getElem?_eq_getElem hk1⟩
        obtain ⟨m, rfl, hm8, hm1, hm2⟩ := ofR_at (a := a) (f := 1) (t := 2) (by rw [hM.out]; exact hx0)
        have hx := Lib.hid hx0
        clear hx0 hm1 hm2
        refine wp_skip ?_
        refine then_normal ?_
        refine wp_seq ?_
        refine wp_block ?_
        refine wp_seq ?_
        refine wp_region_N [(0, 1), (1, 1), (2, 1)] (by kernel_rfl) ?_
        refine wpS_index (E := elemI) (i := 0) (d := some 48) rfl (by rfl) rfl rfl rfl (HM32.out.row 2 rfl rowOwn) (hx.out) rfl ?_
        intro eb34 eo35 hc36
        simp only [Act.put, List.setIfInBounds_toArray, List.set_cons_succ, List.set_cons_zero]
        refine wpS_load1 (i := 1) (d := some 49) (u := .int .i64 (m : Int)) rfl (by rfl) rfl rfl (hc36 0 _ rfl) Try.underlying3 rfl rfl ?_
        simp only [Act.put, List.setIfInBounds_toArray, List.set_cons_succ, List.set_cons_zero]
        refine wpS_this [2] rfl (by kernel_rfl) (by simp only [pickL, nthL, List.cons_append, List.nil_append]; rfl) ?_
        repeat (go_big_quiet_step (fail))
        refine wpQuiet_nil ?_
        refine wpS_nil ?_
        refine then_normal ?_
        refine wp_region_N [(0, 1), (1, 1), (2, 1), (3, 3)] (by kernel_rfl) ?_
        refine wpS_this [0, 1] rfl (by kernel_rfl) (by simp only [pickL, nthL, List.cons_append, List.nil_append]; rfl) ?_
        repeat (go_big_quiet_step (fail))
        refine wpQuiet_nil ?_
        refine wpS_read (i := 2) (d := some 52) rfl (by rfl) (run_addrSt (hm8) rfl rfl rfl) rfl ?_
        simp only [Act.put, List.setIfInBounds_toArray, List.set_cons_succ, List.set_cons_zero]
        refine wpS_store1 (i := 3) (v := .int _ _) (L2 := [_, _, _]) (cs' := rgC (⟨upd (setG M (fun _ => true) 2 a.s k) m 2, a.p, a.e⟩) (.slice pa a.p.2.2.length ca)) rfl (by rfl) rfl rfl rfl rfl (by kernel_rfl) rfl HM32.out 0 rfl rfl (Nat.ble_eq_true_of_le (by rw [rgC_len]; have := hm8; omega)) (rgC_setS (hm8) _) covS_nil rfl ?_
        rintro W38 hm37 -
        have HM39 := Lib.hid hm37
        clear hm37
        refine wpS_nil ?_
        refine block_normal ?_
        refine then_normal ?_
        refine wp_region_N [(0, 1), (1, 1)] (by kernel_rfl) ?_
        refine wpS_this [0, 1] rfl (by kernel_rfl) (by simp only [pickL, nthL, List.cons_append, List.nil_append]; rfl) ?_
        repeat (go_big_quiet_step (fail))
        refine wpQuiet_nil ?_
        refine wpS_nil ?_
        refine then_normal ?_
        refine ⟨by kernel_rfl, ?_⟩
        refine ⟨M.length - (k + 1), by omega, k + 1, rfl, rfl, hk1, ?_⟩
        rw [← setG_hit hx.out rfl]
        exact (Mem.only (M := [_, _, _, _]) HM39.out [0, 0, 0, 0] rfl)
      · have hge : Hid (M.length ≤ k) := Lib.hid (by have : ¬ (k : Int) < ((M.length : Nat) : Int) := (by simpa using h33); omega)
        clear h33
        refine wp_exit ?_
        refine then_exit (then_exit (block_exit ?_))
        refine then_normal ?_
        refine wp_seq ?_
        rw [show k = M.length by have := hge.out; omega] at HM32
        rw [rgC_congr (r := ⟨setG M (fun _ => true) 2 a.s M.length, a.p, a.e⟩) (r' := ⟨memS a, a.p, a.e⟩) (by rw [← hM.out]; exact setG_mem a _ _)] at HM32
        refine wp_region_N [(0, 1), (1, 3), (2, 1)] (by kernel_rfl) ?_
        refine wpS_loadA (i := 0) (d := some 54) (cells := rgC (⟨memS a, a.p, a.e⟩) (.slice pa a.p.2.2.length ca)) rfl (by rfl) rfl rfl (HM32.out.sub 0 rfl (fun k u h => by rw [Nat.zero_add]; exact h)) Try.underlying30 rfl (by kernel_rfl) rfl ?_
        simp only [Act.put, List.setIfInBounds_toArray, List.set_cons_succ, List.set_cons_zero]
        refine wpS_storeA (i := 1) (L2 := [_, _, _]) (cs' := rgC (⟨memS a, a.p, a.e⟩) (.slice pa a.p.2.2.length ca)) rfl (by rfl) rfl rfl rfl (by kernel_rfl) (rgC_one _ _ _) HM32.out 1 rfl rfl (by kernel_rfl) (by kernel_rfl) covS_nil rfl ?_
        rintro W41 hm40 -
        have HM42 := Lib.hid hm40
        clear hm40
        refine wpS_this [2] rfl (by kernel_rfl) (by simp only [pickL, nthL, List.cons_append, List.nil_append]; rfl) ?_
        repeat (go_big_quiet_step (fail))
        refine wpQuiet_nil ?_
        refine wpS_nil ?_
        refine then_normal ?_
        refine wp_ret ?_
        refine ret_cell_tmp rfl HM42.out 0 rfl rfl Try.underlying30 rfl (by kernel_rfl) rfl rfl ?_
        exact doesU_ret (post := fun u => [withT u ⟨memS a, a.p, a.e⟩ 0 R]) (Mem.toWith (b := ⟨memS a, a.p, a.e⟩) (X := rowT elemI (.slice none 0 0) []) (srcL 1 rfl ha) (Mem.nilRow elemI (Mem.only (M := [_]) HM42.out [3] rfl))) rfl
    · have hd : Hid (decide (t = a.p.2.2) = false) := Lib.hid (decide_eq_false hte)
      obtain ⟨f1, f2, sf, fe, hnx'⟩ := next_letters (nextP (a.p.1, a.p.2.1, a.p.2.2) me t)
      have hnx := Lib.hid hnx'
      clear hnx'
      have hq := hf.symm.trans (with_next hM.out ht.out hne.out hte hnx.out)
      clear hf
      replace hte := Lib.hid hte
      refine wp_region_N [(0, 1), (1, 1), (2, 1), (3, 1), (4, 3), (5, 1)] (by kernel_rfl) ?_
      refine wpS_this [0, 1, 2] rfl (by kernel_rfl) (by simp only [pickL, nthL, List.cons_append, List.nil_append]; rfl) ?_
      repeat (go_big_quiet_step (fail))
      refine wpQuiet_nil ?_
      refine wpS_load1 (i := 3) (d := some 27) (u := .slice pa a.p.2.2.length ca) rfl (by rfl) rfl rfl (HM28.out.sub1 5 rfl (rgC_pl 2 _ rfl)) Try.underlying23 rfl rfl ?_
      simp only [Act.put, List.setIfInBounds_toArray, List.set_cons_succ, List.set_cons_zero]
      refine wpS_does2 (i := 4) (d := some 28) (rem := [_, _, _, _]) (out := [_, _, _, _, _, _]) rfl (by rfl) rfl Try.call58 (Does.ofList (sequal_d (listT [_, _]) _ _ t a.p.2.2 (rowL 0 rfl rdRow_reads) (rowL 1 rfl ha.row) (by omega))) rfl rfl HM28.out [0, 2] rfl covS_nil rfl rfl ?_
      rintro W44 hm43 -
      rw [hd.out]
      have HM45 := Lib.hid hm43
      clear hm43
      simp only [Act.put, List.setIfInBounds_toArray, List.set_cons_succ, List.set_cons_zero]
      refine wpS_this [5] rfl (by kernel_rfl) (by simp only [pickL, nthL, List.cons_append, List.nil_append]; rfl) ?_
      repeat (go_big_quiet_step (fail))
      refine wpQuiet_nil ?_
      refine wpS_nil ?_
      refine then_normal ?_
      refine wp_cond_true rfl ?_
      refine wp_seq ?_
      refine wp_region_N [(0, 1), (1, 1), (2, 1), (3, 1), (4, 3), (5, 1), (6, 1), (7, 1), (8, 3), (9, 3), (10, 1)] (by kernel_rfl) ?_
      refine wpS_this [0] rfl (by kernel_rfl) (by simp only [pickL, nthL, List.cons_append, List.nil_append]; rfl) ?_
      repeat (go_big_quiet_step (fail))
      refine wpQuiet_nil ?_
      refine wpS_loadA (i := 1) (d := some 32) (cells := plC (a).p (.slice pa a.p.2.2.length ca)) rfl (by rfl) rfl rfl (HM45.out.sub 5 rfl (rgC_pl)) Try.underlying25 rfl (by kernel_rfl) rfl ?_
      dsimp only [plC]
      simp only [Act.put, List.setIfInBounds_toArray, List.set_cons_succ, List.set_cons_zero]
      refine wpS_this [2, 3] rfl (by kernel_rfl) (by simp only [pickL, nthL, List.cons_append, List.nil_append]; rfl) ?_
      repeat (go_big_quiet_step (fail))
      refine wpQuiet_nil ?_
      refine wpS_doesU3 (i := 4) (d := some 35) (rem := [_, _, _, _]) rfl (by rfl) rfl Try.call59 (DoesU.ofList (next_d (listT [_, _]) _ a.p.1 a.p.2.1 a.p.2.2 (srcL 1 rfl ha) la me _ t (srcL 0 rfl rdRow_src) (by omega) f1 f2 sf fe hnx.out)) rfl rfl rfl HM45.out [0, 0] rfl covS_nil (fun _ => rfl) rfl ?_
      rintro u48 W47 hm46 -
      obtain ⟨q, kq, rfl, hm46q⟩ := Mem.next rfl hm46
      clear hm46
      have HM49 := Lib.hid hm46q
      clear hm46q
      simp only [Act.put, List.setIfInBounds_toArray, List.set_cons_succ, List.set_cons_zero]
      refine wpS_this [5, 6, 7] rfl (by kernel_rfl) (by simp only [pickL, nthL, List.cons_append, List.nil_append]; rfl) ?_
      repeat (go_big_quiet_step (fail))
      refine wpQuiet_nil ?_
      refine wpS_alloc (i := 8) (dd := 9) (z := .agg #[.int .i64 0, .int .i64 0, .slice none 0 0]) (cs := #[.int .i64 0, .int .i64 0, .slice none 0 0]) rfl (by rfl) rfl (by kernel_rfl) rfl HM49.out covS_nil rfl ?_
      rintro b52 W51 hm50 -
      have HM53 := Lib.hid hm50
      clear hm50
      simp only [Act.put, List.setIfInBounds_toArray, List.set_cons_succ, List.set_cons_zero]
      refine wpS_storeA (i := 9) (L2 := [_, _, _, _, _, _, _]) (cs' := [.int .i64 f1, .int .i64 f2, .slice q sf.length kq]) rfl (by rfl) rfl rfl rfl (by kernel_rfl) (by rfl) HM53.out 0 rfl rfl rfl rfl covS_nil rfl ?_
      rintro W55 hm54 -
      have HM56 := Lib.hid hm54
      clear hm54
      refine wpS_this [10] rfl (by kernel_rfl) (by simp only [pickL, nthL, List.cons_append, List.nil_append]; rfl) ?_
      repeat (go_big_quiet_step (fail))
      refine wpQuiet_nil ?_
      refine wpS_nil ?_
      refine then_normal ?_
      refine wp_seq ?_
      refine wp_seq ?_
      by_cases hfe : fe = 0
      · rw [if_pos hfe] at hq
        have q1 := (Prod.mk.inj hq).1
        have q2 := (Prod.mk.inj hq).2
        subst q1
        subst q2
        clear hq
        have g1 : (fe != 0) = false := by rw [bne_eq_false_iff_eq]; exact hfe
        replace hfe := Lib.hid hfe
        refine wp_region_N [(0, 1), (1, 1)] (by kernel_rfl) ?_
        refine wpS_this [0, 1] rfl (by kernel_rfl) (by simp only [pickL, nthL, List.cons_append, List.nil_append]; rfl) ?_
        repeat (go_big_quiet_step (fail))
        refine wpQuiet_nil ?_
        refine wpS_nil ?_
        refine then_normal ?_
        refine wp_cond_false rfl ?_
        refine wp_skip ?_
        refine then_normal ?_
        refine wp_region_N [(0, 1), (1, 1), (2, 3)] (by kernel_rfl) ?_
        have Cb9 := Mem.cell HM56.out 0 rfl
        refine wpS_this [0, 1] rfl (by kernel_rfl) (by simp only [pickL, nthL, List.cons_append, List.nil_append]; rfl) ?_
        repeat (go_big_quiet_step (fail))
        refine wpQuiet_nil ?_
        clear Cb9
        refine wpS_storeA (i := 2) (L2 := [_, _, _, _, _, _, _]) (cs' := rgC (⟨a.s, (f1, f2, sf), a.e⟩) (.slice q sf.length kq)) rfl (by rfl) rfl rfl rfl (by kernel_rfl) (by rfl) HM56.out 7 rfl rfl (by kernel_rfl) (rgC_setP ((f1, f2, sf)) (.slice q sf.length kq)) covS_nil rfl ?_
        rintro W58 hm57 -
        have HM59 := Lib.hid hm57
        clear hm57
        refine wpS_nil ?_
        refine then_normal ?_
        refine wp_seq ?_
        refine wp_seq ?_
        refine wp_region_N [(0, 1), (1, 1), (2, 1)] (by kernel_rfl) ?_
        refine wpS_this [0, 1, 2] rfl (by kernel_rfl) (by simp only [pickL, nthL, List.cons_append, List.nil_append]; rfl) ?_
        repeat (go_big_quiet_step (fail))
        refine wpQuiet_nil ?_
        refine wpS_nil ?_
        refine then_normal ?_
        refine wp_block ?_
        refine wp_loop_F [12, 46, 47, 48, 49, 50, 51, 52, 53] (fun n vs W' => ∃ k : Nat, n = M.length - k ∧ vs 46 = .int .i64 (k : Int) ∧ k ≤ M.length ∧ Mem [boxT b3 (.cells (rgC ⟨setG M (fun _ => true) 2 a.s k, (f1, f2, sf), a.e⟩ (.slice q sf.length kq)).toArray 30 (0, 0)), boxT b7 (.cells (rgC noR (.slice none 0 0)).toArray 30 (0, 0)), rowT elemI (.slice pM M.length cM) M, rowT elemI (.slice q sf.length kq) sf, R] H w W') (n0 := M.length) ?_ ?_
        · refine ⟨0, rfl, rfl, Nat.zero_le _, ?_⟩
          rw [setG_zero]
          exact (Mem.only (M := [_, _, _, _, _]) HM59.out [0, 6, 5, 1, 2] rfl)
        rintro n vs W' ⟨k, rfl, e46, hk, hm⟩
        simp only [putAll, List.map_cons, List.map_nil, Act.put, List.setIfInBounds_toArray, List.set_cons_succ, List.set_cons_zero]
        rw [e46]
        clear e46
        have HM60 := Lib.hid hm
        clear hm
        refine wp_seq ?_
        refine wp_region_N [(0, 1)] (by kernel_rfl) ?_
        refine wpS_this [0] rfl (by kernel_rfl) (by simp only [pickL, nthL, List.cons_append, List.nil_append]; rfl) ?_
        repeat (go_big_quiet_step (fail))
        refine wpQuiet_nil ?_
        refine wpS_nil ?_
        refine then_normal ?_
        refine wp_seq ?_
        refine wp_cond_split rfl (fun h61 => ?_) (fun h61 => ?_)
        · have hk1 : k + 1 ≤ M.length := by have : (k : Int) < ((M.length : Nat) : Int) := (by simpa using h61); omega
          clear h61
          obtain ⟨x, hx0⟩ : ∃ y, M[k]? = some y := ⟨_, List.getElem?_eq_getElem hk1⟩
          obtain ⟨m, rfl, hm8, hm1, hm2⟩ := ofR_at (a := a) (f := 1) (t := 2) (by rw [hM.out]; exact hx0)
          have hx := Lib.hid hx0
          clear hx0 hm1 hm2
          refine wp_skip ?_
          refine then_normal ?_
          refine wp_seq ?_
          refine wp_block ?_
          refine wp_seq ?_
          refine wp_region_N [(0, 1), (1, 1), (2, 1)] (by kernel_rfl) ?_
          refine wpS_index (E := elemI) (i := 0) (d := some 48) rfl (by rfl) rfl rfl rfl (HM60.out.row 2 rfl rowOwn) (hx.out) rfl ?_
          intro eb62 eo63 hc64
          simp only [Act.put, List.setIfInBounds_toArray, List.set_cons_succ, List.set_cons_zero]
          refine wpS_load1 (i := 1) (d := some 49) (u := .int .i64 (m : Int)) rfl (by rfl) rfl rfl (hc64 0 _ rfl) Try.underlying3 rfl rfl ?_
          simp only [Act.put, List.setIfInBounds_toArray, List.set_cons_succ, List.set_cons_zero]
          refine wpS_this [2] rfl (by kernel_rfl) (by simp only [pickL, nthL, List.cons_append, List.nil_append]; rfl) ?_
          repeat (go_big_quiet_step (fail))
          refine wpQuiet_nil ?_
          refine wpS_nil ?_
          refine then_normal ?_
          refine wp_region_N [(0, 1), (1, 1), (2, 1), (3, 3)] (by kernel_rfl) ?_
          refine wpS_this [0, 1] rfl (by kernel_rfl) (by simp only [pickL, nthL, List.cons_append, List.nil_append]; rfl) ?_
          repeat (go_big_quiet_step (fail))
          refine wpQuiet_nil ?_
          refine wpS_read (i := 2) (d := some 52) rfl (by rfl) (run_addrSt (hm8) rfl rfl rfl) rfl ?_
          simp only [Act.put, List.setIfInBounds_toArray, List.set_cons_succ, List.set_cons_zero]
          refine wpS_store1 (i := 3) (v := .int _ _) (L2 := [_, _, _, _]) (cs' := rgC (⟨upd (setG M (fun _ => true) 2 a.s k) m 2, (f1, f2, sf), a.e⟩) (.slice q sf.length kq)) rfl (by rfl) rfl rfl rfl rfl (by kernel_rfl) rfl HM60.out 0 rfl rfl (Nat.ble_eq_true_of_le (by rw [rgC_len]; have := hm8; omega)) (rgC_setS (hm8) _) covS_nil rfl ?_
          rintro W66 hm65 -
          have HM67 := Lib.hid hm65
          clear hm65
          refine wpS_nil ?_
          refine block_normal ?_
          refine then_normal ?_
          refine wp_region_N [(0, 1), (1, 1)] (by kernel_rfl) ?_
          refine wpS_this [0, 1] rfl (by kernel_rfl) (by simp only [pickL, nthL, List.cons_append, List.nil_append]; rfl) ?_
          repeat (go_big_quiet_step (fail))
          refine wpQuiet_nil ?_
          refine wpS_nil ?_
          refine then_normal ?_
          refine ⟨by kernel_rfl, ?_⟩
          refine ⟨M.length - (k + 1), by omega, k + 1, rfl, rfl, hk1, ?_⟩
          rw [← setG_hit hx.out rfl]
          exact (Mem.only (M := [_, _, _, _, _]) HM67.out [0, 0, 0, 0, 0] rfl)
        · have hge : Hid (M.length ≤ k) := Lib.hid (by have : ¬ (k : Int) < ((M.length : Nat) : Int) := (by simpa using h61); omega)
          clear h61
          refine wp_exit ?_
          refine then_exit (then_exit (block_exit ?_))
          refine then_normal ?_
          refine wp_seq ?_
          rw [show k = M.length by have := hge.out; omega] at HM60
          rw [rgC_congr (r := ⟨setG M (fun _ => true) 2 a.s M.length, (f1, f2, sf), a.e⟩) (r' := ⟨memS a, (f1, f2, sf), a.e⟩) (by rw [← hM.out]; exact setG_mem a _ _)] at HM60
          refine wp_region_N [(0, 1), (1, 3), (2, 1)] (by kernel_rfl) ?_
          refine wpS_loadA (i := 0) (d := some 54) (cells := rgC (⟨memS a, (f1, f2, sf), a.e⟩) (.slice q sf.length kq)) rfl (by rfl) rfl rfl (HM60.out.sub 0 rfl (fun k u h => by rw [Nat.zero_add]; exact h)) Try.underlying30 rfl (by kernel_rfl) rfl ?_
          simp only [Act.put, List.setIfInBounds_toArray, List.set_cons_succ, List.set_cons_zero]
          refine wpS_storeA (i := 1) (L2 := [_, _, _, _]) (cs' := rgC (⟨memS a, (f1, f2, sf), a.e⟩) (.slice q sf.length kq)) rfl (by rfl) rfl rfl rfl (by kernel_rfl) (rgC_one _ _ _) HM60.out 1 rfl rfl (by kernel_rfl) (by kernel_rfl) covS_nil rfl ?_
          rintro W69 hm68 -
          have HM70 := Lib.hid hm68
          clear hm68
          refine wpS_this [2] rfl (by kernel_rfl) (by simp only [pickL, nthL, List.cons_append, List.nil_append]; rfl) ?_
          repeat (go_big_quiet_step (fail))
          refine wpQuiet_nil ?_
          refine wpS_nil ?_
          refine then_normal ?_
          refine wp_ret ?_
          refine ret_cell_tmp rfl HM70.out 0 rfl rfl Try.underlying30 rfl (by kernel_rfl) rfl rfl ?_
          exact doesU_ret (post := fun u => [withT u ⟨memS a, (f1, f2, sf), a.e⟩ 0 R]) (Mem.toWith (b := ⟨memS a, (f1, f2, sf), a.e⟩) (srcL 0 rfl rowT_reads) (Mem.only (M := [_, _]) HM70.out [3, 3] rfl)) rfl
      · rw [if_neg hfe] at hq
        have q1 := (Prod.mk.inj hq).1
        have q2 := (Prod.mk.inj hq).2
        subst q1
        subst q2
        clear hq
        have g1 : (e != 0) = true := bne_iff_ne.2 hfe
        replace hfe := Lib.hid hfe
        refine wp_region_N [(0, 1), (1, 1)] (by kernel_rfl) ?_
        refine wpS_this [0, 1] rfl (by kernel_rfl) (by simp only [pickL, nthL, List.cons_append, List.nil_append]; rfl) ?_
        repeat (go_big_quiet_step (fail))
        refine wpQuiet_nil ?_
        refine wpS_nil ?_
        refine then_normal ?_
        refine wp_cond_true rfl ?_
        refine wp_seq ?_
        refine wp_region_N [(0, 1), (1, 1), (2, 3), (3, 1)] (by kernel_rfl) ?_
        refine wpS_read (i := 0) (d := some 40) (v := rgV noR (.slice none 0 0)) rfl (by rfl) (by kernel_rfl) rfl ?_
        simp only [Act.put, List.setIfInBounds_toArray, List.set_cons_succ, List.set_cons_zero]
        refine wpS_this [1] rfl (by kernel_rfl) (by simp only [pickL, nthL, List.cons_append, List.nil_append]; rfl) ?_
        repeat (go_big_quiet_step (fail))
        refine wpQuiet_nil ?_
        refine wpS_storeA (i := 2) (L2 := [_, _, _, _, _, _, _]) (cs' := rgC (noR) (.slice none 0 0)) rfl (by rfl) rfl rfl rfl (by kernel_rfl) (rgC_one _ _ _) HM56.out 6 rfl rfl (by kernel_rfl) (by kernel_rfl) covS_nil rfl ?_
        rintro W72 hm71 -
        have HM73 := Lib.hid hm71
        clear hm71
        refine wpS_this [3] rfl (by kernel_rfl) (by simp only [pickL, nthL, List.cons_append, List.nil_append]; rfl) ?_
        repeat (go_big_quiet_step (fail))
        refine wpQuiet_nil ?_
        refine wpS_nil ?_
        refine then_normal ?_
        refine wp_ret ?_
        refine then_ret (then_ret ?_)
        refine ret_cell_tmp rfl HM73.out 0 rfl rfl Try.underlying30 rfl (by kernel_rfl) rfl rfl ?_
        exact doesU_ret (post := fun u => [withT u noR e R]) (Mem.toWith (X := rowT elemI (.slice none 0 0) []) (srcNil _) (Mem.nilRow elemI (Mem.only (M := [_]) HM73.out [4] rfl))) rfl

set_option maxHeartbeats 4000000 in
set_option maxRecDepth 100000 in
theorem gone_d (R : At) (va : Value) (a : Rg) (ha : Reads elemI R va a.p.2.2) (la : a.p.2.2.length ≤ 1000) : Does Try.prog 26 #[rgV a va] [R] (rgV (goneR a) va) [R] := by
  intro w H hp
  have HM0 := Lib.hid (mem_refl hp)
  clear hp
  obtain ⟨pa, ca, rfl⟩ := row_form (Mem.src HM0.out 0 rfl ha)
  go_enter Try.func26, Try.ntmps26
  refine wp_seq ?_
  obtain ⟨l, hl'⟩ : ∃ y, ofR a 3 3 = y := ⟨_, rfl⟩
  have hll : l.length ≤ 8 := by rw [← hl']; exact ofR_le a 3 3
  have hl := Lib.hid hl'
  clear hl'
  refine wp_region_N [(0, 3), (1, 3)] (by kernel_rfl) ?_
  refine wpS_boxA (i := 0) (dd := 1) rfl (by rfl) rfl rfl HM0.out covS_nil rfl ?_
  rintro b3 W2 hm1 -
  have HM4 := Lib.hid hm1
  clear hm1
  simp only [Act.put, List.setIfInBounds_toArray, List.set_cons_succ, List.set_cons_zero]
  refine wpS_alloc (i := 1) (dd := 2) (z := rgV noR (.slice none 0 0)) (cs := (rgC noR (.slice none 0 0)).toArray) rfl (by rfl) rfl (by kernel_rfl) rfl HM4.out covS_nil rfl ?_
  rintro b7 W6 hm5 -
  have HM8 := Lib.hid hm5
  clear hm5
  simp only [Act.put, List.setIfInBounds_toArray, List.set_cons_succ, List.set_cons_zero]
  refine wpS_nil ?_
  refine then_normal ?_
  refine wp_seq ?_
  refine wp_cut_F [3, 4, 7, 8, 9, 10] (fun vs W' => ∃ ow wa, vs 3 = .pointer (some ⟨ow, 0, none⟩) ∧ vs 4 = .pointer (some ⟨wa, 0, none⟩) ∧ Mem [arrT ow 68 (ownersL a), arrT wa 68 (targetsL a), boxT b3 (.cells (rgC a (.slice pa a.p.2.2.length ca)).toArray 30 (0, 0)), boxT b7 (.cells (rgC noR (.slice none 0 0)).toArray 30 (0, 0)), R] H w W') ?_ ?_
  · refine wp_region_taken [] (fun k => k ∈ ([b3] : List Nat)) (by kernel_rfl) rfl rfl ?_
    have hm9 := HM8.out.drew
    have HM10 := Lib.hid hm9
    clear hm9
    refine wpT_takeS (i := 0) (by kernel_rfl) (by kernel_rfl) ?_
    refine wpS_loadA2 (i := 0) (d := some 7) (cells := rgC (a) (.slice pa a.p.2.2.length ca)) rfl (by rfl) rfl rfl (by simp) (HM10.out.sub 1 rfl (fun k u h => by rw [Nat.zero_add]; exact h)) Try.underlying30 rfl (by kernel_rfl) rfl ?_
    simp only [Act.put, List.setIfInBounds_toArray, List.set_cons_succ, List.set_cons_zero]
    refine wpS_nil ?_
    refine wpT_takeS (i := 2) (by kernel_rfl) (by kernel_rfl) ?_
    refine wpS_loadA2 (i := 2) (d := some 9) (cells := rgC (a) (.slice pa a.p.2.2.length ca)) rfl (by rfl) rfl rfl (by simp) (HM10.out.sub 1 rfl (fun k u h => by rw [Nat.zero_add]; exact h)) Try.underlying30 rfl (by kernel_rfl) rfl ?_
    simp only [Act.put, List.setIfInBounds_toArray, List.set_cons_succ, List.set_cons_zero]
    refine wpS_nil ?_
    refine wpT_ready 1 [4, 5] (by kernel_rfl) (allT_cons ?_ (allT_cons ?_ (allT_cons ?_ allT_nil)))
    · refine opT_S (by kernel_rfl) ?_
      refine wpS_does1 (i := 1) (d := some 8) (rem := [_, _]) (out := [_, _, _]) rfl (by rfl) rfl Try.call49 (owners12_d R _ a ha la) rfl HM10.out [2] rfl (covS_box 1 rfl covS_nil) rfl rfl ?_
      rintro W12 hm11 hg13
      have HM14 := Lib.hid hm11
      clear hm11
      simp only [Act.put, List.setIfInBounds_toArray, List.set_cons_succ, List.set_cons_zero]
      refine wpS_nil ?_
      refine wpT_ready 3 [4, 5] (by kernel_rfl) (allT_cons ?_ (allT_cons ?_ (allT_cons ?_ allT_nil)))
      · refine opT_S (by kernel_rfl) ?_
        refine wpS_does1 (i := 3) (d := some 10) (rem := [_, _]) (out := [_, _, _]) rfl (by rfl) rfl Try.call50 (targets_d R _ a ha la) rfl HM14.out [0] rfl (covS_box 1 rfl covS_nil) rfl rfl ?_
        rintro W16 hm15 hg17
        have HM18 := Lib.hid hm15
        clear hm15
        simp only [Act.put, List.setIfInBounds_toArray, List.set_cons_succ, List.set_cons_zero]
        refine wpS_nil ?_
        refine wpT_ready 4 [5] (by kernel_rfl) (allT_cons ?_ (allT_cons ?_ allT_nil))
        · refine opT_S (by kernel_rfl) ?_
          refine wpS_alloc (i := 4) (dd := 3) (z := aV (List.replicate 16 0)) (cs := (((List.replicate 16 0) : List Int).map iV).toArray) rfl (by rfl) rfl (by kernel_rfl) rfl HM18.out (covS_box 2 rfl covS_nil) rfl ?_
          rintro ow W20 hm19 hg21
          have HM22 := Lib.hid hm19
          clear hm19
          simp only [Act.put, List.setIfInBounds_toArray, List.set_cons_succ, List.set_cons_zero]
          refine wpS_nil ?_
          refine wpT_ready 5 [] (by kernel_rfl) (allT_cons ?_ allT_nil)
          refine opT_S (by kernel_rfl) ?_
          refine wpS_alloc (i := 5) (dd := 4) (z := aV (List.replicate 16 0)) (cs := (((List.replicate 16 0) : List Int).map iV).toArray) rfl (by rfl) rfl (by kernel_rfl) rfl HM22.out (covS_box 3 rfl covS_nil) rfl ?_
          rintro wa W24 hm23 hg25
          have HM26 := Lib.hid hm23
          clear hm23
          simp only [Act.put, List.setIfInBounds_toArray, List.set_cons_succ, List.set_cons_zero]
          refine wpS_nil ?_
          refine wpT_ready 6 [] (by kernel_rfl) (allT_cons ?_ allT_nil)
          refine opT_S (by kernel_rfl) ?_
          refine wpS_storeArr (i := 6) (L2 := [_, _, _, _]) is16 rfl (by rfl) rfl rfl rfl HM26.out 1 rfl rfl (List.length_replicate) (ownersL_len a) (covS_box 3 rfl covS_nil) rfl ?_
          rintro W28 hm27 hg29
          have HM30 := Lib.hid hm27
          clear hm27
          refine wpS_nil ?_
          refine wpT_ready 7 [] (by kernel_rfl) (allT_cons ?_ allT_nil)
          refine opT_S (by kernel_rfl) ?_
          refine wpS_storeArr (i := 7) (L2 := [_, _, _, _]) is16 rfl (by rfl) rfl rfl rfl HM30.out 1 rfl rfl (List.length_replicate) (targetsL_len a) (covS_box 3 rfl covS_nil) rfl ?_
          rintro W32 hm31 hg33
          have HM34 := Lib.hid hm31
          clear hm31
          refine wpS_nil ?_
          refine wpT_end (by kernel_rfl) ?_
          refine then_normal ?_
          refine ⟨by kernel_rfl, ?_⟩
          exact ⟨_, _, rfl, rfl, (Mem.only (M := [_, _, _, _, _]) HM34.out [1, 0, 2, 1, 0] rfl)⟩
        · refine opT_S (by kernel_rfl) ?_
          refine wpS_alloc (i := 5) (dd := 4) (z := aV (List.replicate 16 0)) (cs := (((List.replicate 16 0) : List Int).map iV).toArray) rfl (by rfl) rfl (by kernel_rfl) rfl HM18.out (covS_box 2 rfl covS_nil) rfl ?_
          rintro wa W36 hm35 hg37
          have HM38 := Lib.hid hm35
          clear hm35
          simp only [Act.put, List.setIfInBounds_toArray, List.set_cons_succ, List.set_cons_zero]
          refine wpS_nil ?_
          refine wpT_ready 4 [] (by kernel_rfl) (allT_cons ?_ allT_nil)
          refine opT_S (by kernel_rfl) ?_
          refine wpS_alloc (i := 4) (dd := 3) (z := aV (List.replicate 16 0)) (cs := (((List.replicate 16 0) : List Int).map iV).toArray) rfl (by rfl) rfl (by kernel_rfl) rfl HM38.out (covS_box 3 rfl covS_nil) rfl ?_
          rintro ow W40 hm39 hg41
          have HM42 := Lib.hid hm39
          clear hm39
          simp only [Act.put, List.setIfInBounds_toArray, List.set_cons_succ, List.set_cons_zero]
          refine wpS_nil ?_
          refine wpT_ready 6 [] (by kernel_rfl) (allT_cons ?_ allT_nil)
          refine opT_S (by kernel_rfl) ?_
          refine wpS_storeArr (i := 6) (L2 := [_, _, _, _]) is16 rfl (by rfl) rfl rfl rfl HM42.out 0 rfl rfl (List.length_replicate) (ownersL_len a) (covS_box 3 rfl covS_nil) rfl ?_
          rintro W44 hm43 hg45
          have HM46 := Lib.hid hm43
          clear hm43
          refine wpS_nil ?_
          refine wpT_ready 7 [] (by kernel_rfl) (allT_cons ?_ allT_nil)
          refine opT_S (by kernel_rfl) ?_
          refine wpS_storeArr (i := 7) (L2 := [_, _, _, _]) is16 rfl (by rfl) rfl rfl rfl HM46.out 1 rfl rfl (List.length_replicate) (targetsL_len a) (covS_box 3 rfl covS_nil) rfl ?_
          rintro W48 hm47 hg49
          have HM50 := Lib.hid hm47
          clear hm47
          refine wpS_nil ?_
          refine wpT_end (by kernel_rfl) ?_
          refine then_normal ?_
          refine ⟨by kernel_rfl, ?_⟩
          exact ⟨_, _, rfl, rfl, (Mem.only (M := [_, _, _, _, _]) HM50.out [1, 0, 2, 1, 0] rfl)⟩
      · refine opT_S (by kernel_rfl) ?_
        refine wpS_alloc (i := 4) (dd := 3) (z := aV (List.replicate 16 0)) (cs := (((List.replicate 16 0) : List Int).map iV).toArray) rfl (by rfl) rfl (by kernel_rfl) rfl HM14.out (covS_box 2 rfl covS_nil) rfl ?_
        rintro ow W52 hm51 hg53
        have HM54 := Lib.hid hm51
        clear hm51
        simp only [Act.put, List.setIfInBounds_toArray, List.set_cons_succ, List.set_cons_zero]
        refine wpS_nil ?_
        refine wpT_ready 3 [5] (by kernel_rfl) (allT_cons ?_ (allT_cons ?_ allT_nil))
        · refine opT_S (by kernel_rfl) ?_
          refine wpS_does1 (i := 3) (d := some 10) (rem := [_, _, _]) (out := [_, _, _, _]) rfl (by rfl) rfl Try.call50 (targets_d R _ a ha la) rfl HM54.out [1] rfl (covS_box 2 rfl covS_nil) rfl rfl ?_
          rintro W56 hm55 hg57
          have HM58 := Lib.hid hm55
          clear hm55
          simp only [Act.put, List.setIfInBounds_toArray, List.set_cons_succ, List.set_cons_zero]
          refine wpS_nil ?_
          refine wpT_ready 5 [] (by kernel_rfl) (allT_cons ?_ allT_nil)
          refine opT_S (by kernel_rfl) ?_
          refine wpS_alloc (i := 5) (dd := 4) (z := aV (List.replicate 16 0)) (cs := (((List.replicate 16 0) : List Int).map iV).toArray) rfl (by rfl) rfl (by kernel_rfl) rfl HM58.out (covS_box 3 rfl covS_nil) rfl ?_
          rintro wa W60 hm59 hg61
          have HM62 := Lib.hid hm59
          clear hm59
          simp only [Act.put, List.setIfInBounds_toArray, List.set_cons_succ, List.set_cons_zero]
          refine wpS_nil ?_
          refine wpT_ready 6 [] (by kernel_rfl) (allT_cons ?_ allT_nil)
          refine opT_S (by kernel_rfl) ?_
          refine wpS_storeArr (i := 6) (L2 := [_, _, _, _]) is16 rfl (by rfl) rfl rfl rfl HM62.out 2 rfl rfl (List.length_replicate) (ownersL_len a) (covS_box 3 rfl covS_nil) rfl ?_
          rintro W64 hm63 hg65
          have HM66 := Lib.hid hm63
          clear hm63
          refine wpS_nil ?_
          refine wpT_ready 7 [] (by kernel_rfl) (allT_cons ?_ allT_nil)
          refine opT_S (by kernel_rfl) ?_
          refine wpS_storeArr (i := 7) (L2 := [_, _, _, _]) is16 rfl (by rfl) rfl rfl rfl HM66.out 1 rfl rfl (List.length_replicate) (targetsL_len a) (covS_box 3 rfl covS_nil) rfl ?_
          rintro W68 hm67 hg69
          have HM70 := Lib.hid hm67
          clear hm67
          refine wpS_nil ?_
          refine wpT_end (by kernel_rfl) ?_
          refine then_normal ?_
          refine ⟨by kernel_rfl, ?_⟩
          exact ⟨_, _, rfl, rfl, (Mem.only (M := [_, _, _, _, _]) HM70.out [1, 0, 2, 1, 0] rfl)⟩
        · refine opT_S (by kernel_rfl) ?_
          refine wpS_alloc (i := 5) (dd := 4) (z := aV (List.replicate 16 0)) (cs := (((List.replicate 16 0) : List Int).map iV).toArray) rfl (by rfl) rfl (by kernel_rfl) rfl HM54.out (covS_box 3 rfl covS_nil) rfl ?_
          rintro wa W72 hm71 hg73
          have HM74 := Lib.hid hm71
          clear hm71
          simp only [Act.put, List.setIfInBounds_toArray, List.set_cons_succ, List.set_cons_zero]
          refine wpS_nil ?_
          refine wpT_ready 3 [] (by kernel_rfl) (allT_cons ?_ allT_nil)
          refine opT_S (by kernel_rfl) ?_
          refine wpS_does1 (i := 3) (d := some 10) (rem := [_, _, _, _]) (out := [_, _, _, _, _]) rfl (by rfl) rfl Try.call50 (targets_d R _ a ha la) rfl HM74.out [2] rfl (covS_box 3 rfl covS_nil) rfl rfl ?_
          rintro W76 hm75 hg77
          have HM78 := Lib.hid hm75
          clear hm75
          simp only [Act.put, List.setIfInBounds_toArray, List.set_cons_succ, List.set_cons_zero]
          refine wpS_nil ?_
          refine wpT_ready 6 [] (by kernel_rfl) (allT_cons ?_ allT_nil)
          refine opT_S (by kernel_rfl) ?_
          refine wpS_storeArr (i := 6) (L2 := [_, _, _, _]) is16 rfl (by rfl) rfl rfl rfl HM78.out 2 rfl rfl (List.length_replicate) (ownersL_len a) (covS_box 3 rfl covS_nil) rfl ?_
          rintro W80 hm79 hg81
          have HM82 := Lib.hid hm79
          clear hm79
          refine wpS_nil ?_
          refine wpT_ready 7 [] (by kernel_rfl) (allT_cons ?_ allT_nil)
          refine opT_S (by kernel_rfl) ?_
          refine wpS_storeArr (i := 7) (L2 := [_, _, _, _]) is16 rfl (by rfl) rfl rfl rfl HM82.out 2 rfl rfl (List.length_replicate) (targetsL_len a) (covS_box 3 rfl covS_nil) rfl ?_
          rintro W84 hm83 hg85
          have HM86 := Lib.hid hm83
          clear hm83
          refine wpS_nil ?_
          refine wpT_end (by kernel_rfl) ?_
          refine then_normal ?_
          refine ⟨by kernel_rfl, ?_⟩
          exact ⟨_, _, rfl, rfl, (Mem.only (M := [_, _, _, _, _]) HM86.out [1, 0, 2, 1, 0] rfl)⟩
      · refine opT_S (by kernel_rfl) ?_
        refine wpS_alloc (i := 5) (dd := 4) (z := aV (List.replicate 16 0)) (cs := (((List.replicate 16 0) : List Int).map iV).toArray) rfl (by rfl) rfl (by kernel_rfl) rfl HM14.out (covS_box 2 rfl covS_nil) rfl ?_
        rintro wa W88 hm87 hg89
        have HM90 := Lib.hid hm87
        clear hm87
        simp only [Act.put, List.setIfInBounds_toArray, List.set_cons_succ, List.set_cons_zero]
        refine wpS_nil ?_
        refine wpT_ready 3 [4] (by kernel_rfl) (allT_cons ?_ (allT_cons ?_ allT_nil))
        · refine opT_S (by kernel_rfl) ?_
          refine wpS_does1 (i := 3) (d := some 10) (rem := [_, _, _]) (out := [_, _, _, _]) rfl (by rfl) rfl Try.call50 (targets_d R _ a ha la) rfl HM90.out [1] rfl (covS_box 2 rfl covS_nil) rfl rfl ?_
          rintro W92 hm91 hg93
          have HM94 := Lib.hid hm91
          clear hm91
          simp only [Act.put, List.setIfInBounds_toArray, List.set_cons_succ, List.set_cons_zero]
          refine wpS_nil ?_
          refine wpT_ready 4 [] (by kernel_rfl) (allT_cons ?_ allT_nil)
          refine opT_S (by kernel_rfl) ?_
          refine wpS_alloc (i := 4) (dd := 3) (z := aV (List.replicate 16 0)) (cs := (((List.replicate 16 0) : List Int).map iV).toArray) rfl (by rfl) rfl (by kernel_rfl) rfl HM94.out (covS_box 3 rfl covS_nil) rfl ?_
          rintro ow W96 hm95 hg97
          have HM98 := Lib.hid hm95
          clear hm95
          simp only [Act.put, List.setIfInBounds_toArray, List.set_cons_succ, List.set_cons_zero]
          refine wpS_nil ?_
          refine wpT_ready 6 [] (by kernel_rfl) (allT_cons ?_ allT_nil)
          refine opT_S (by kernel_rfl) ?_
          refine wpS_storeArr (i := 6) (L2 := [_, _, _, _]) is16 rfl (by rfl) rfl rfl rfl HM98.out 0 rfl rfl (List.length_replicate) (ownersL_len a) (covS_box 3 rfl covS_nil) rfl ?_
          rintro W100 hm99 hg101
          have HM102 := Lib.hid hm99
          clear hm99
          refine wpS_nil ?_
          refine wpT_ready 7 [] (by kernel_rfl) (allT_cons ?_ allT_nil)
          refine opT_S (by kernel_rfl) ?_
          refine wpS_storeArr (i := 7) (L2 := [_, _, _, _]) is16 rfl (by rfl) rfl rfl rfl HM102.out 2 rfl rfl (List.length_replicate) (targetsL_len a) (covS_box 3 rfl covS_nil) rfl ?_
          rintro W104 hm103 hg105
          have HM106 := Lib.hid hm103
          clear hm103
          refine wpS_nil ?_
          refine wpT_end (by kernel_rfl) ?_
          refine then_normal ?_
          refine ⟨by kernel_rfl, ?_⟩
          exact ⟨_, _, rfl, rfl, (Mem.only (M := [_, _, _, _, _]) HM106.out [1, 0, 2, 1, 0] rfl)⟩
        · refine opT_S (by kernel_rfl) ?_
          refine wpS_alloc (i := 4) (dd := 3) (z := aV (List.replicate 16 0)) (cs := (((List.replicate 16 0) : List Int).map iV).toArray) rfl (by rfl) rfl (by kernel_rfl) rfl HM90.out (covS_box 3 rfl covS_nil) rfl ?_
          rintro ow W108 hm107 hg109
          have HM110 := Lib.hid hm107
          clear hm107
          simp only [Act.put, List.setIfInBounds_toArray, List.set_cons_succ, List.set_cons_zero]
          refine wpS_nil ?_
          refine wpT_ready 3 [] (by kernel_rfl) (allT_cons ?_ allT_nil)
          refine opT_S (by kernel_rfl) ?_
          refine wpS_does1 (i := 3) (d := some 10) (rem := [_, _, _, _]) (out := [_, _, _, _, _]) rfl (by rfl) rfl Try.call50 (targets_d R _ a ha la) rfl HM110.out [2] rfl (covS_box 3 rfl covS_nil) rfl rfl ?_
          rintro W112 hm111 hg113
          have HM114 := Lib.hid hm111
          clear hm111
          simp only [Act.put, List.setIfInBounds_toArray, List.set_cons_succ, List.set_cons_zero]
          refine wpS_nil ?_
          refine wpT_ready 6 [] (by kernel_rfl) (allT_cons ?_ allT_nil)
          refine opT_S (by kernel_rfl) ?_
          refine wpS_storeArr (i := 6) (L2 := [_, _, _, _]) is16 rfl (by rfl) rfl rfl rfl HM114.out 1 rfl rfl (List.length_replicate) (ownersL_len a) (covS_box 3 rfl covS_nil) rfl ?_
          rintro W116 hm115 hg117
          have HM118 := Lib.hid hm115
          clear hm115
          refine wpS_nil ?_
          refine wpT_ready 7 [] (by kernel_rfl) (allT_cons ?_ allT_nil)
          refine opT_S (by kernel_rfl) ?_
          refine wpS_storeArr (i := 7) (L2 := [_, _, _, _]) is16 rfl (by rfl) rfl rfl rfl HM118.out 2 rfl rfl (List.length_replicate) (targetsL_len a) (covS_box 3 rfl covS_nil) rfl ?_
          rintro W120 hm119 hg121
          have HM122 := Lib.hid hm119
          clear hm119
          refine wpS_nil ?_
          refine wpT_end (by kernel_rfl) ?_
          refine then_normal ?_
          refine ⟨by kernel_rfl, ?_⟩
          exact ⟨_, _, rfl, rfl, (Mem.only (M := [_, _, _, _, _]) HM122.out [1, 0, 2, 1, 0] rfl)⟩
    · refine opT_S (by kernel_rfl) ?_
      refine wpS_alloc (i := 4) (dd := 3) (z := aV (List.replicate 16 0)) (cs := (((List.replicate 16 0) : List Int).map iV).toArray) rfl (by rfl) rfl (by kernel_rfl) rfl HM10.out (covS_box 1 rfl covS_nil) rfl ?_
      rintro ow W124 hm123 hg125
      have HM126 := Lib.hid hm123
      clear hm123
      simp only [Act.put, List.setIfInBounds_toArray, List.set_cons_succ, List.set_cons_zero]
      refine wpS_nil ?_
      refine wpT_ready 1 [5] (by kernel_rfl) (allT_cons ?_ (allT_cons ?_ allT_nil))
      · refine opT_S (by kernel_rfl) ?_
        refine wpS_does1 (i := 1) (d := some 8) (rem := [_, _, _]) (out := [_, _, _, _]) rfl (by rfl) rfl Try.call49 (owners12_d R _ a ha la) rfl HM126.out [3] rfl (covS_box 2 rfl covS_nil) rfl rfl ?_
        rintro W128 hm127 hg129
        have HM130 := Lib.hid hm127
        clear hm127
        simp only [Act.put, List.setIfInBounds_toArray, List.set_cons_succ, List.set_cons_zero]
        refine wpS_nil ?_
        refine wpT_ready 3 [5] (by kernel_rfl) (allT_cons ?_ (allT_cons ?_ allT_nil))
        · refine opT_S (by kernel_rfl) ?_
          refine wpS_does1 (i := 3) (d := some 10) (rem := [_, _, _]) (out := [_, _, _, _]) rfl (by rfl) rfl Try.call50 (targets_d R _ a ha la) rfl HM130.out [0] rfl (covS_box 2 rfl covS_nil) rfl rfl ?_
          rintro W132 hm131 hg133
          have HM134 := Lib.hid hm131
          clear hm131
          simp only [Act.put, List.setIfInBounds_toArray, List.set_cons_succ, List.set_cons_zero]
          refine wpS_nil ?_
          refine wpT_ready 5 [] (by kernel_rfl) (allT_cons ?_ allT_nil)
          refine opT_S (by kernel_rfl) ?_
          refine wpS_alloc (i := 5) (dd := 4) (z := aV (List.replicate 16 0)) (cs := (((List.replicate 16 0) : List Int).map iV).toArray) rfl (by rfl) rfl (by kernel_rfl) rfl HM134.out (covS_box 3 rfl covS_nil) rfl ?_
          rintro wa W136 hm135 hg137
          have HM138 := Lib.hid hm135
          clear hm135
          simp only [Act.put, List.setIfInBounds_toArray, List.set_cons_succ, List.set_cons_zero]
          refine wpS_nil ?_
          refine wpT_ready 6 [] (by kernel_rfl) (allT_cons ?_ allT_nil)
          refine opT_S (by kernel_rfl) ?_
          refine wpS_storeArr (i := 6) (L2 := [_, _, _, _]) is16 rfl (by rfl) rfl rfl rfl HM138.out 2 rfl rfl (List.length_replicate) (ownersL_len a) (covS_box 3 rfl covS_nil) rfl ?_
          rintro W140 hm139 hg141
          have HM142 := Lib.hid hm139
          clear hm139
          refine wpS_nil ?_
          refine wpT_ready 7 [] (by kernel_rfl) (allT_cons ?_ allT_nil)
          refine opT_S (by kernel_rfl) ?_
          refine wpS_storeArr (i := 7) (L2 := [_, _, _, _]) is16 rfl (by rfl) rfl rfl rfl HM142.out 1 rfl rfl (List.length_replicate) (targetsL_len a) (covS_box 3 rfl covS_nil) rfl ?_
          rintro W144 hm143 hg145
          have HM146 := Lib.hid hm143
          clear hm143
          refine wpS_nil ?_
          refine wpT_end (by kernel_rfl) ?_
          refine then_normal ?_
          refine ⟨by kernel_rfl, ?_⟩
          exact ⟨_, _, rfl, rfl, (Mem.only (M := [_, _, _, _, _]) HM146.out [1, 0, 2, 1, 0] rfl)⟩
        · refine opT_S (by kernel_rfl) ?_
          refine wpS_alloc (i := 5) (dd := 4) (z := aV (List.replicate 16 0)) (cs := (((List.replicate 16 0) : List Int).map iV).toArray) rfl (by rfl) rfl (by kernel_rfl) rfl HM130.out (covS_box 3 rfl covS_nil) rfl ?_
          rintro wa W148 hm147 hg149
          have HM150 := Lib.hid hm147
          clear hm147
          simp only [Act.put, List.setIfInBounds_toArray, List.set_cons_succ, List.set_cons_zero]
          refine wpS_nil ?_
          refine wpT_ready 3 [] (by kernel_rfl) (allT_cons ?_ allT_nil)
          refine opT_S (by kernel_rfl) ?_
          refine wpS_does1 (i := 3) (d := some 10) (rem := [_, _, _, _]) (out := [_, _, _, _, _]) rfl (by rfl) rfl Try.call50 (targets_d R _ a ha la) rfl HM150.out [1] rfl (covS_box 3 rfl covS_nil) rfl rfl ?_
          rintro W152 hm151 hg153
          have HM154 := Lib.hid hm151
          clear hm151
          simp only [Act.put, List.setIfInBounds_toArray, List.set_cons_succ, List.set_cons_zero]
          refine wpS_nil ?_
          refine wpT_ready 6 [] (by kernel_rfl) (allT_cons ?_ allT_nil)
          refine opT_S (by kernel_rfl) ?_
          refine wpS_storeArr (i := 6) (L2 := [_, _, _, _]) is16 rfl (by rfl) rfl rfl rfl HM154.out 2 rfl rfl (List.length_replicate) (ownersL_len a) (covS_box 3 rfl covS_nil) rfl ?_
          rintro W156 hm155 hg157
          have HM158 := Lib.hid hm155
          clear hm155
          refine wpS_nil ?_
          refine wpT_ready 7 [] (by kernel_rfl) (allT_cons ?_ allT_nil)
          refine opT_S (by kernel_rfl) ?_
          refine wpS_storeArr (i := 7) (L2 := [_, _, _, _]) is16 rfl (by rfl) rfl rfl rfl HM158.out 2 rfl rfl (List.length_replicate) (targetsL_len a) (covS_box 3 rfl covS_nil) rfl ?_
          rintro W160 hm159 hg161
          have HM162 := Lib.hid hm159
          clear hm159
          refine wpS_nil ?_
          refine wpT_end (by kernel_rfl) ?_
          refine then_normal ?_
          refine ⟨by kernel_rfl, ?_⟩
          exact ⟨_, _, rfl, rfl, (Mem.only (M := [_, _, _, _, _]) HM162.out [1, 0, 2, 1, 0] rfl)⟩
      · refine opT_S (by kernel_rfl) ?_
        refine wpS_alloc (i := 5) (dd := 4) (z := aV (List.replicate 16 0)) (cs := (((List.replicate 16 0) : List Int).map iV).toArray) rfl (by rfl) rfl (by kernel_rfl) rfl HM126.out (covS_box 2 rfl covS_nil) rfl ?_
        rintro wa W164 hm163 hg165
        have HM166 := Lib.hid hm163
        clear hm163
        simp only [Act.put, List.setIfInBounds_toArray, List.set_cons_succ, List.set_cons_zero]
        refine wpS_nil ?_
        refine wpT_ready 1 [] (by kernel_rfl) (allT_cons ?_ allT_nil)
        refine opT_S (by kernel_rfl) ?_
        refine wpS_does1 (i := 1) (d := some 8) (rem := [_, _, _, _]) (out := [_, _, _, _, _]) rfl (by rfl) rfl Try.call49 (owners12_d R _ a ha la) rfl HM166.out [4] rfl (covS_box 3 rfl covS_nil) rfl rfl ?_
        rintro W168 hm167 hg169
        have HM170 := Lib.hid hm167
        clear hm167
        simp only [Act.put, List.setIfInBounds_toArray, List.set_cons_succ, List.set_cons_zero]
        refine wpS_nil ?_
        refine wpT_ready 3 [] (by kernel_rfl) (allT_cons ?_ allT_nil)
        refine opT_S (by kernel_rfl) ?_
        refine wpS_does1 (i := 3) (d := some 10) (rem := [_, _, _, _]) (out := [_, _, _, _, _]) rfl (by rfl) rfl Try.call50 (targets_d R _ a ha la) rfl HM170.out [0] rfl (covS_box 3 rfl covS_nil) rfl rfl ?_
        rintro W172 hm171 hg173
        have HM174 := Lib.hid hm171
        clear hm171
        simp only [Act.put, List.setIfInBounds_toArray, List.set_cons_succ, List.set_cons_zero]
        refine wpS_nil ?_
        refine wpT_ready 6 [] (by kernel_rfl) (allT_cons ?_ allT_nil)
        refine opT_S (by kernel_rfl) ?_
        refine wpS_storeArr (i := 6) (L2 := [_, _, _, _]) is16 rfl (by rfl) rfl rfl rfl HM174.out 2 rfl rfl (List.length_replicate) (ownersL_len a) (covS_box 3 rfl covS_nil) rfl ?_
        rintro W176 hm175 hg177
        have HM178 := Lib.hid hm175
        clear hm175
        refine wpS_nil ?_
        refine wpT_ready 7 [] (by kernel_rfl) (allT_cons ?_ allT_nil)
        refine opT_S (by kernel_rfl) ?_
        refine wpS_storeArr (i := 7) (L2 := [_, _, _, _]) is16 rfl (by rfl) rfl rfl rfl HM178.out 2 rfl rfl (List.length_replicate) (targetsL_len a) (covS_box 3 rfl covS_nil) rfl ?_
        rintro W180 hm179 hg181
        have HM182 := Lib.hid hm179
        clear hm179
        refine wpS_nil ?_
        refine wpT_end (by kernel_rfl) ?_
        refine then_normal ?_
        refine ⟨by kernel_rfl, ?_⟩
        exact ⟨_, _, rfl, rfl, (Mem.only (M := [_, _, _, _, _]) HM182.out [1, 0, 2, 1, 0] rfl)⟩
    · refine opT_S (by kernel_rfl) ?_
      refine wpS_alloc (i := 5) (dd := 4) (z := aV (List.replicate 16 0)) (cs := (((List.replicate 16 0) : List Int).map iV).toArray) rfl (by rfl) rfl (by kernel_rfl) rfl HM10.out (covS_box 1 rfl covS_nil) rfl ?_
      rintro wa W184 hm183 hg185
      have HM186 := Lib.hid hm183
      clear hm183
      simp only [Act.put, List.setIfInBounds_toArray, List.set_cons_succ, List.set_cons_zero]
      refine wpS_nil ?_
      refine wpT_ready 1 [4] (by kernel_rfl) (allT_cons ?_ (allT_cons ?_ allT_nil))
      · refine opT_S (by kernel_rfl) ?_
        refine wpS_does1 (i := 1) (d := some 8) (rem := [_, _, _]) (out := [_, _, _, _]) rfl (by rfl) rfl Try.call49 (owners12_d R _ a ha la) rfl HM186.out [3] rfl (covS_box 2 rfl covS_nil) rfl rfl ?_
        rintro W188 hm187 hg189
        have HM190 := Lib.hid hm187
        clear hm187
        simp only [Act.put, List.setIfInBounds_toArray, List.set_cons_succ, List.set_cons_zero]
        refine wpS_nil ?_
        refine wpT_ready 3 [4] (by kernel_rfl) (allT_cons ?_ (allT_cons ?_ allT_nil))
        · refine opT_S (by kernel_rfl) ?_
          refine wpS_does1 (i := 3) (d := some 10) (rem := [_, _, _]) (out := [_, _, _, _]) rfl (by rfl) rfl Try.call50 (targets_d R _ a ha la) rfl HM190.out [0] rfl (covS_box 2 rfl covS_nil) rfl rfl ?_
          rintro W192 hm191 hg193
          have HM194 := Lib.hid hm191
          clear hm191
          simp only [Act.put, List.setIfInBounds_toArray, List.set_cons_succ, List.set_cons_zero]
          refine wpS_nil ?_
          refine wpT_ready 4 [] (by kernel_rfl) (allT_cons ?_ allT_nil)
          refine opT_S (by kernel_rfl) ?_
          refine wpS_alloc (i := 4) (dd := 3) (z := aV (List.replicate 16 0)) (cs := (((List.replicate 16 0) : List Int).map iV).toArray) rfl (by rfl) rfl (by kernel_rfl) rfl HM194.out (covS_box 3 rfl covS_nil) rfl ?_
          rintro ow W196 hm195 hg197
          have HM198 := Lib.hid hm195
          clear hm195
          simp only [Act.put, List.setIfInBounds_toArray, List.set_cons_succ, List.set_cons_zero]
          refine wpS_nil ?_
          refine wpT_ready 6 [] (by kernel_rfl) (allT_cons ?_ allT_nil)
          refine opT_S (by kernel_rfl) ?_
          refine wpS_storeArr (i := 6) (L2 := [_, _, _, _]) is16 rfl (by rfl) rfl rfl rfl HM198.out 0 rfl rfl (List.length_replicate) (ownersL_len a) (covS_box 3 rfl covS_nil) rfl ?_
          rintro W200 hm199 hg201
          have HM202 := Lib.hid hm199
          clear hm199
          refine wpS_nil ?_
          refine wpT_ready 7 [] (by kernel_rfl) (allT_cons ?_ allT_nil)
          refine opT_S (by kernel_rfl) ?_
          refine wpS_storeArr (i := 7) (L2 := [_, _, _, _]) is16 rfl (by rfl) rfl rfl rfl HM202.out 2 rfl rfl (List.length_replicate) (targetsL_len a) (covS_box 3 rfl covS_nil) rfl ?_
          rintro W204 hm203 hg205
          have HM206 := Lib.hid hm203
          clear hm203
          refine wpS_nil ?_
          refine wpT_end (by kernel_rfl) ?_
          refine then_normal ?_
          refine ⟨by kernel_rfl, ?_⟩
          exact ⟨_, _, rfl, rfl, (Mem.only (M := [_, _, _, _, _]) HM206.out [1, 0, 2, 1, 0] rfl)⟩
        · refine opT_S (by kernel_rfl) ?_
          refine wpS_alloc (i := 4) (dd := 3) (z := aV (List.replicate 16 0)) (cs := (((List.replicate 16 0) : List Int).map iV).toArray) rfl (by rfl) rfl (by kernel_rfl) rfl HM190.out (covS_box 3 rfl covS_nil) rfl ?_
          rintro ow W208 hm207 hg209
          have HM210 := Lib.hid hm207
          clear hm207
          simp only [Act.put, List.setIfInBounds_toArray, List.set_cons_succ, List.set_cons_zero]
          refine wpS_nil ?_
          refine wpT_ready 3 [] (by kernel_rfl) (allT_cons ?_ allT_nil)
          refine opT_S (by kernel_rfl) ?_
          refine wpS_does1 (i := 3) (d := some 10) (rem := [_, _, _, _]) (out := [_, _, _, _, _]) rfl (by rfl) rfl Try.call50 (targets_d R _ a ha la) rfl HM210.out [1] rfl (covS_box 3 rfl covS_nil) rfl rfl ?_
          rintro W212 hm211 hg213
          have HM214 := Lib.hid hm211
          clear hm211
          simp only [Act.put, List.setIfInBounds_toArray, List.set_cons_succ, List.set_cons_zero]
          refine wpS_nil ?_
          refine wpT_ready 6 [] (by kernel_rfl) (allT_cons ?_ allT_nil)
          refine opT_S (by kernel_rfl) ?_
          refine wpS_storeArr (i := 6) (L2 := [_, _, _, _]) is16 rfl (by rfl) rfl rfl rfl HM214.out 1 rfl rfl (List.length_replicate) (ownersL_len a) (covS_box 3 rfl covS_nil) rfl ?_
          rintro W216 hm215 hg217
          have HM218 := Lib.hid hm215
          clear hm215
          refine wpS_nil ?_
          refine wpT_ready 7 [] (by kernel_rfl) (allT_cons ?_ allT_nil)
          refine opT_S (by kernel_rfl) ?_
          refine wpS_storeArr (i := 7) (L2 := [_, _, _, _]) is16 rfl (by rfl) rfl rfl rfl HM218.out 2 rfl rfl (List.length_replicate) (targetsL_len a) (covS_box 3 rfl covS_nil) rfl ?_
          rintro W220 hm219 hg221
          have HM222 := Lib.hid hm219
          clear hm219
          refine wpS_nil ?_
          refine wpT_end (by kernel_rfl) ?_
          refine then_normal ?_
          refine ⟨by kernel_rfl, ?_⟩
          exact ⟨_, _, rfl, rfl, (Mem.only (M := [_, _, _, _, _]) HM222.out [1, 0, 2, 1, 0] rfl)⟩
      · refine opT_S (by kernel_rfl) ?_
        refine wpS_alloc (i := 4) (dd := 3) (z := aV (List.replicate 16 0)) (cs := (((List.replicate 16 0) : List Int).map iV).toArray) rfl (by rfl) rfl (by kernel_rfl) rfl HM186.out (covS_box 2 rfl covS_nil) rfl ?_
        rintro ow W224 hm223 hg225
        have HM226 := Lib.hid hm223
        clear hm223
        simp only [Act.put, List.setIfInBounds_toArray, List.set_cons_succ, List.set_cons_zero]
        refine wpS_nil ?_
        refine wpT_ready 1 [] (by kernel_rfl) (allT_cons ?_ allT_nil)
        refine opT_S (by kernel_rfl) ?_
        refine wpS_does1 (i := 1) (d := some 8) (rem := [_, _, _, _]) (out := [_, _, _, _, _]) rfl (by rfl) rfl Try.call49 (owners12_d R _ a ha la) rfl HM226.out [4] rfl (covS_box 3 rfl covS_nil) rfl rfl ?_
        rintro W228 hm227 hg229
        have HM230 := Lib.hid hm227
        clear hm227
        simp only [Act.put, List.setIfInBounds_toArray, List.set_cons_succ, List.set_cons_zero]
        refine wpS_nil ?_
        refine wpT_ready 3 [] (by kernel_rfl) (allT_cons ?_ allT_nil)
        refine opT_S (by kernel_rfl) ?_
        refine wpS_does1 (i := 3) (d := some 10) (rem := [_, _, _, _]) (out := [_, _, _, _, _]) rfl (by rfl) rfl Try.call50 (targets_d R _ a ha la) rfl HM230.out [0] rfl (covS_box 3 rfl covS_nil) rfl rfl ?_
        rintro W232 hm231 hg233
        have HM234 := Lib.hid hm231
        clear hm231
        simp only [Act.put, List.setIfInBounds_toArray, List.set_cons_succ, List.set_cons_zero]
        refine wpS_nil ?_
        refine wpT_ready 6 [] (by kernel_rfl) (allT_cons ?_ allT_nil)
        refine opT_S (by kernel_rfl) ?_
        refine wpS_storeArr (i := 6) (L2 := [_, _, _, _]) is16 rfl (by rfl) rfl rfl rfl HM234.out 1 rfl rfl (List.length_replicate) (ownersL_len a) (covS_box 3 rfl covS_nil) rfl ?_
        rintro W236 hm235 hg237
        have HM238 := Lib.hid hm235
        clear hm235
        refine wpS_nil ?_
        refine wpT_ready 7 [] (by kernel_rfl) (allT_cons ?_ allT_nil)
        refine opT_S (by kernel_rfl) ?_
        refine wpS_storeArr (i := 7) (L2 := [_, _, _, _]) is16 rfl (by rfl) rfl rfl rfl HM238.out 2 rfl rfl (List.length_replicate) (targetsL_len a) (covS_box 3 rfl covS_nil) rfl ?_
        rintro W240 hm239 hg241
        have HM242 := Lib.hid hm239
        clear hm239
        refine wpS_nil ?_
        refine wpT_end (by kernel_rfl) ?_
        refine then_normal ?_
        refine ⟨by kernel_rfl, ?_⟩
        exact ⟨_, _, rfl, rfl, (Mem.only (M := [_, _, _, _, _]) HM242.out [1, 0, 2, 1, 0] rfl)⟩
  rintro vs W' ⟨ow, wa, e3, e4, hm⟩
  simp only [putAll, List.map_cons, List.map_nil, Act.put, List.setIfInBounds_toArray, List.set_cons_succ, List.set_cons_zero]
  rw [e3, e4]
  clear e3 e4
  have HM243 := Lib.hid hm
  clear hm
  refine then_normal ?_
  refine wp_seq ?_
  refine wp_seq ?_
  refine wp_region_N [(0, 1), (1, 3), (2, 1), (3, 1)] (by kernel_rfl) ?_
  refine wpS_loadA (i := 0) (d := some 11) (cells := rgC (a) (.slice pa a.p.2.2.length ca)) rfl (by rfl) rfl rfl (HM243.out.sub 2 rfl (fun k u h => by rw [Nat.zero_add]; exact h)) Try.underlying30 rfl (by kernel_rfl) rfl ?_
  simp only [Act.put, List.setIfInBounds_toArray, List.set_cons_succ, List.set_cons_zero]
  refine wpS_doesU3 (i := 1) (d := some 12) (rem := [_, _, _, _]) rfl (by rfl) rfl Try.call15 (gof_d R _ a ha la 3 3) rfl rfl rfl HM243.out [4] rfl covS_nil (fun _ => rfl) rfl ?_
  rintro u246 W245 hm244 -
  rw [hl.out] at hm244
  obtain ⟨pl, cl, rfl⟩ := row_form (Mem.src hm244 0 rfl rowT_reads)
  have HM247 := Lib.hid hm244
  clear hm244
  simp only [Act.put, List.setIfInBounds_toArray, List.set_cons_succ, List.set_cons_zero]
  refine wpS_this [2, 3] rfl (by kernel_rfl) (by simp only [pickL, nthL, List.cons_append, List.nil_append]; rfl) ?_
  repeat (go_big_quiet_step (fail))
  refine wpQuiet_nil ?_
  refine wpS_nil ?_
  refine then_normal ?_
  refine wp_block ?_
  refine wp_loop_F [6, 14, 15, 16, 17, 18, 19, 20, 21, 22, 23, 24, 25, 26, 27, 28, 29, 30, 31] (fun n vs W' => ∃ k : Nat, n = l.length - k ∧ vs 14 = .int .i64 (k : Int) ∧ k ≤ l.length ∧ Mem [boxT b3 (.cells (rgC ⟨setG l (goneB a) 4 a.s k, a.p, a.e⟩ (.slice pa a.p.2.2.length ca)).toArray 30 (0, 0)), boxT b7 (.cells (rgC noR (.slice none 0 0)).toArray 30 (0, 0)), arrT ow 68 (ownersL a), arrT wa 68 (targetsL a), rowT elemI (.slice pl l.length cl) l, R] H w W') (n0 := l.length) ?_ ?_
  · refine ⟨0, rfl, rfl, Nat.zero_le _, ?_⟩
    rw [setG_zero]
    exact (Mem.only (M := [_, _, _, _, _, _]) HM247.out [4, 4, 2, 2, 0, 0] rfl)
  rintro n vs W' ⟨k, rfl, e14, hk, hm⟩
  simp only [putAll, List.map_cons, List.map_nil, Act.put, List.setIfInBounds_toArray, List.set_cons_succ, List.set_cons_zero]
  rw [e14]
  clear e14
  have HM248 := Lib.hid hm
  clear hm
  refine wp_seq ?_
  refine wp_region_N [(0, 1)] (by kernel_rfl) ?_
  refine wpS_this [0] rfl (by kernel_rfl) (by simp only [pickL, nthL, List.cons_append, List.nil_append]; rfl) ?_
  repeat (go_big_quiet_step (fail))
  refine wpQuiet_nil ?_
  refine wpS_nil ?_
  refine then_normal ?_
  refine wp_seq ?_
  refine wp_cond_split rfl (fun h249 => ?_) (fun h249 => ?_)
  · have hk1 : k + 1 ≤ l.length := by have : (k : Int) < ((l.length : Nat) : Int) := (by simpa using h249); omega
    clear h249
    obtain ⟨x, hx0⟩ : ∃ y, l[k]? = some y := ⟨_, List.getElem?_eq_getElem hk1⟩
    obtain ⟨m, rfl, hm8, hm1, hm2⟩ := ofR_at (a := a) (f := 3) (t := 3) (by rw [hl.out]; exact hx0)
    have hm3 : 3 ≤ a.s m ∧ a.s m ≤ 3 := ⟨hm1, hm2⟩
    have hx := Lib.hid hx0
    clear hx0 hm1 hm2
    refine wp_skip ?_
    refine then_normal ?_
    refine wp_seq ?_
    refine wp_block ?_
    refine wp_seq ?_
    refine wp_region_N [(0, 1), (1, 1), (2, 1)] (by kernel_rfl) ?_
    refine wpS_index (E := elemI) (i := 0) (d := some 16) rfl (by rfl) rfl rfl rfl (HM248.out.row 4 rfl rowOwn) (hx.out) rfl ?_
    intro eb250 eo251 hc252
    simp only [Act.put, List.setIfInBounds_toArray, List.set_cons_succ, List.set_cons_zero]
    refine wpS_load1 (i := 1) (d := some 17) (u := .int .i64 (m : Int)) rfl (by rfl) rfl rfl (hc252 0 _ rfl) Try.underlying3 rfl rfl ?_
    simp only [Act.put, List.setIfInBounds_toArray, List.set_cons_succ, List.set_cons_zero]
    refine wpS_this [2] rfl (by kernel_rfl) (by simp only [pickL, nthL, List.cons_append, List.nil_append]; rfl) ?_
    repeat (go_big_quiet_step (fail))
    refine wpQuiet_nil ?_
    refine wpS_nil ?_
    refine then_normal ?_
    refine wp_seq ?_
    rcases (show (ownersL a).contains (m : Int) = true ∨ ((ownersL a).contains (m : Int) = false ∧ (targetsL a).contains (m : Int) = true) ∨ ((ownersL a).contains (m : Int) = false ∧ (targetsL a).contains (m : Int) = false) from by cases (ownersL a).contains (m : Int) <;> cases (targetsL a).contains (m : Int) <;> simp) with h1 | ⟨h1, h2⟩ | ⟨h1, h2⟩
    · have hgb : Hid (goneB a m = false) := Lib.hid (by rw [gone_at hm3, h1]; rfl)
      replace h1 := Lib.hid h1
      refine wp_region_N [(0, 1), (1, 1), (2, 3), (3, 1), (4, 1), (5, 1), (6, 1), (7, 3), (8, 1), (9, 1)] (by kernel_rfl) ?_
      refine wpS_sliceArr (i := 0) (d := some 18) (b := ow) is16 rfl (by rfl) rfl rfl (by decide) rfl ?_
      simp only [Act.put, List.setIfInBounds_toArray, List.set_cons_succ, List.set_cons_zero]
      refine wpS_this [1] rfl (by kernel_rfl) (by simp only [pickL, nthL, List.cons_append, List.nil_append]; rfl) ?_
      repeat (go_big_quiet_step (fail))
      refine wpQuiet_nil ?_
      refine wpS_does2 (i := 2) (d := some 20) (rem := [_, _, _, _, _]) (out := [_, _, _, _, _, _]) rfl (by rfl) rfl Try.call34 (contains_d (arrT ow 68 (ownersL a)) _ (ownersL a) (m : Int) (arr_reads (ownersL_len a)) (by rw [ownersL_len]; decide)) rfl rfl HM248.out [2] rfl covS_nil rfl rfl ?_
      rintro W254 hm253 -
      rw [h1.out]
      have HM255 := Lib.hid hm253
      clear hm253
      simp only [Act.put, List.setIfInBounds_toArray, List.set_cons_succ, List.set_cons_zero]
      refine wpS_this [3, 4] rfl (by kernel_rfl) (by simp only [pickL, nthL, List.cons_append, List.nil_append]; rfl) ?_
      repeat (go_big_quiet_step (fail))
      refine wpQuiet_nil ?_
      refine wpS_skip (i := 5) (d := some 23) rfl (by rfl) rfl ?_
      simp only [Act.put, List.setIfInBounds_toArray, List.set_cons_succ, List.set_cons_zero]
      refine wpS_this [6] rfl (by kernel_rfl) (by simp only [pickL, nthL, List.cons_append, List.nil_append]; rfl) ?_
      repeat (go_big_quiet_step (fail))
      refine wpQuiet_nil ?_
      refine wpS_skip (i := 7) (d := some 25) rfl (by rfl) rfl ?_
      simp only [Act.put, List.setIfInBounds_toArray, List.set_cons_succ, List.set_cons_zero]
      refine wpS_this [8, 9] rfl (by kernel_rfl) (by simp only [pickL, nthL, List.cons_append, List.nil_append]; rfl) ?_
      repeat (go_big_quiet_step (fail))
      refine wpQuiet_nil ?_
      refine wpS_nil ?_
      refine then_normal ?_
      refine wp_cond_false rfl ?_
      refine wp_skip ?_
      refine block_normal ?_
      refine then_normal ?_
      refine wp_region_N [(0, 1), (1, 1)] (by kernel_rfl) ?_
      refine wpS_this [0, 1] rfl (by kernel_rfl) (by simp only [pickL, nthL, List.cons_append, List.nil_append]; rfl) ?_
      repeat (go_big_quiet_step (fail))
      refine wpQuiet_nil ?_
      refine wpS_nil ?_
      refine then_normal ?_
      refine ⟨by kernel_rfl, ?_⟩
      refine ⟨l.length - (k + 1), by omega, k + 1, rfl, rfl, hk1, ?_⟩
      rw [← setG_miss hx.out hgb.out]
      exact (Mem.only (M := [_, _, _, _, _, _]) HM255.out [1, 1, 0, 0, 0, 0] rfl)
    · have hgb : Hid (goneB a m = false) := Lib.hid (by rw [gone_at hm3, h1, h2]; rfl)
      replace h1 := Lib.hid h1
      replace h2 := Lib.hid h2
      refine wp_region_N [(0, 1), (1, 1), (2, 3), (3, 1), (4, 1), (5, 1), (6, 1), (7, 3), (8, 1), (9, 1)] (by kernel_rfl) ?_
      refine wpS_sliceArr (i := 0) (d := some 18) (b := ow) is16 rfl (by rfl) rfl rfl (by decide) rfl ?_
      simp only [Act.put, List.setIfInBounds_toArray, List.set_cons_succ, List.set_cons_zero]
      refine wpS_this [1] rfl (by kernel_rfl) (by simp only [pickL, nthL, List.cons_append, List.nil_append]; rfl) ?_
      repeat (go_big_quiet_step (fail))
      refine wpQuiet_nil ?_
      refine wpS_does2 (i := 2) (d := some 20) (rem := [_, _, _, _, _]) (out := [_, _, _, _, _, _]) rfl (by rfl) rfl Try.call34 (contains_d (arrT ow 68 (ownersL a)) _ (ownersL a) (m : Int) (arr_reads (ownersL_len a)) (by rw [ownersL_len]; decide)) rfl rfl HM248.out [2] rfl covS_nil rfl rfl ?_
      rintro W257 hm256 -
      rw [h1.out]
      have HM258 := Lib.hid hm256
      clear hm256
      simp only [Act.put, List.setIfInBounds_toArray, List.set_cons_succ, List.set_cons_zero]
      refine wpS_this [3, 4] rfl (by kernel_rfl) (by simp only [pickL, nthL, List.cons_append, List.nil_append]; rfl) ?_
      repeat (go_big_quiet_step (fail))
      refine wpQuiet_nil ?_
      refine wpS_sliceArr (i := 5) (d := some 23) (b := wa) is16 rfl (by rfl) rfl rfl (by decide) rfl ?_
      simp only [Act.put, List.setIfInBounds_toArray, List.set_cons_succ, List.set_cons_zero]
      refine wpS_this [6] rfl (by kernel_rfl) (by simp only [pickL, nthL, List.cons_append, List.nil_append]; rfl) ?_
      repeat (go_big_quiet_step (fail))
      refine wpQuiet_nil ?_
      refine wpS_does2 (i := 7) (d := some 25) (rem := [_, _, _, _, _]) (out := [_, _, _, _, _, _]) rfl (by rfl) rfl Try.call34 (contains_d (arrT wa 68 (targetsL a)) _ (targetsL a) (m : Int) (arr_reads (targetsL_len a)) (by rw [targetsL_len]; decide)) rfl rfl HM258.out [3] rfl covS_nil rfl rfl ?_
      rintro W260 hm259 -
      rw [h2.out]
      have HM261 := Lib.hid hm259
      clear hm259
      simp only [Act.put, List.setIfInBounds_toArray, List.set_cons_succ, List.set_cons_zero]
      refine wpS_this [8, 9] rfl (by kernel_rfl) (by simp only [pickL, nthL, List.cons_append, List.nil_append]; rfl) ?_
      repeat (go_big_quiet_step (fail))
      refine wpQuiet_nil ?_
      refine wpS_nil ?_
      refine then_normal ?_
      refine wp_cond_false rfl ?_
      refine wp_skip ?_
      refine block_normal ?_
      refine then_normal ?_
      refine wp_region_N [(0, 1), (1, 1)] (by kernel_rfl) ?_
      refine wpS_this [0, 1] rfl (by kernel_rfl) (by simp only [pickL, nthL, List.cons_append, List.nil_append]; rfl) ?_
      repeat (go_big_quiet_step (fail))
      refine wpQuiet_nil ?_
      refine wpS_nil ?_
      refine then_normal ?_
      refine ⟨by kernel_rfl, ?_⟩
      refine ⟨l.length - (k + 1), by omega, k + 1, rfl, rfl, hk1, ?_⟩
      rw [← setG_miss hx.out hgb.out]
      exact (Mem.only (M := [_, _, _, _, _, _]) HM261.out [2, 2, 1, 0, 0, 0] rfl)
    · have hgb : Hid (goneB a m = true) := Lib.hid (by rw [gone_at hm3, h1, h2]; rfl)
      replace h1 := Lib.hid h1
      replace h2 := Lib.hid h2
      refine wp_region_N [(0, 1), (1, 1), (2, 3), (3, 1), (4, 1), (5, 1), (6, 1), (7, 3), (8, 1), (9, 1)] (by kernel_rfl) ?_
      refine wpS_sliceArr (i := 0) (d := some 18) (b := ow) is16 rfl (by rfl) rfl rfl (by decide) rfl ?_
      simp only [Act.put, List.setIfInBounds_toArray, List.set_cons_succ, List.set_cons_zero]
      refine wpS_this [1] rfl (by kernel_rfl) (by simp only [pickL, nthL, List.cons_append, List.nil_append]; rfl) ?_
      repeat (go_big_quiet_step (fail))
      refine wpQuiet_nil ?_
      refine wpS_does2 (i := 2) (d := some 20) (rem := [_, _, _, _, _]) (out := [_, _, _, _, _, _]) rfl (by rfl) rfl Try.call34 (contains_d (arrT ow 68 (ownersL a)) _ (ownersL a) (m : Int) (arr_reads (ownersL_len a)) (by rw [ownersL_len]; decide)) rfl rfl HM248.out [2] rfl covS_nil rfl rfl ?_
      rintro W263 hm262 -
      rw [h1.out]
      have HM264 := Lib.hid hm262
      clear hm262
      simp only [Act.put, List.setIfInBounds_toArray, List.set_cons_succ, List.set_cons_zero]
      refine wpS_this [3, 4] rfl (by kernel_rfl) (by simp only [pickL, nthL, List.cons_append, List.nil_append]; rfl) ?_
      repeat (go_big_quiet_step (fail))
      refine wpQuiet_nil ?_
      refine wpS_sliceArr (i := 5) (d := some 23) (b := wa) is16 rfl (by rfl) rfl rfl (by decide) rfl ?_
      simp only [Act.put, List.setIfInBounds_toArray, List.set_cons_succ, List.set_cons_zero]
      refine wpS_this [6] rfl (by kernel_rfl) (by simp only [pickL, nthL, List.cons_append, List.nil_append]; rfl) ?_
      repeat (go_big_quiet_step (fail))
      refine wpQuiet_nil ?_
      refine wpS_does2 (i := 7) (d := some 25) (rem := [_, _, _, _, _]) (out := [_, _, _, _, _, _]) rfl (by rfl) rfl Try.call34 (contains_d (arrT wa 68 (targetsL a)) _ (targetsL a) (m : Int) (arr_reads (targetsL_len a)) (by rw [targetsL_len]; decide)) rfl rfl HM264.out [3] rfl covS_nil rfl rfl ?_
      rintro W266 hm265 -
      rw [h2.out]
      have HM267 := Lib.hid hm265
      clear hm265
      simp only [Act.put, List.setIfInBounds_toArray, List.set_cons_succ, List.set_cons_zero]
      refine wpS_this [8, 9] rfl (by kernel_rfl) (by simp only [pickL, nthL, List.cons_append, List.nil_append]; rfl) ?_
      repeat (go_big_quiet_step (fail))
      refine wpQuiet_nil ?_
      refine wpS_nil ?_
      refine then_normal ?_
      refine wp_cond_true rfl ?_
      refine wp_region_N [(0, 1), (1, 1), (2, 1), (3, 3)] (by kernel_rfl) ?_
      refine wpS_this [0, 1] rfl (by kernel_rfl) (by simp only [pickL, nthL, List.cons_append, List.nil_append]; rfl) ?_
      repeat (go_big_quiet_step (fail))
      refine wpQuiet_nil ?_
      refine wpS_read (i := 2) (d := some 30) rfl (by rfl) (run_addrSt (hm8) rfl rfl rfl) rfl ?_
      simp only [Act.put, List.setIfInBounds_toArray, List.set_cons_succ, List.set_cons_zero]
      refine wpS_store1 (i := 3) (v := .int _ _) (L2 := [_, _, _, _, _]) (cs' := rgC (⟨upd (setG l (goneB a) 4 a.s k) m 4, a.p, a.e⟩) (.slice pa a.p.2.2.length ca)) rfl (by rfl) rfl rfl rfl rfl (by kernel_rfl) rfl HM267.out 2 rfl rfl (Nat.ble_eq_true_of_le (by rw [rgC_len]; have := hm8; omega)) (rgC_setS (hm8) _) covS_nil rfl ?_
      rintro W269 hm268 -
      have HM270 := Lib.hid hm268
      clear hm268
      refine wpS_nil ?_
      refine block_normal ?_
      refine then_normal ?_
      refine wp_region_N [(0, 1), (1, 1)] (by kernel_rfl) ?_
      refine wpS_this [0, 1] rfl (by kernel_rfl) (by simp only [pickL, nthL, List.cons_append, List.nil_append]; rfl) ?_
      repeat (go_big_quiet_step (fail))
      refine wpQuiet_nil ?_
      refine wpS_nil ?_
      refine then_normal ?_
      refine ⟨by kernel_rfl, ?_⟩
      refine ⟨l.length - (k + 1), by omega, k + 1, rfl, rfl, hk1, ?_⟩
      rw [← setG_hit hx.out hgb.out]
      exact (Mem.only (M := [_, _, _, _, _, _]) HM270.out [0, 2, 1, 0, 0, 0] rfl)
  · have hge : Hid (l.length ≤ k) := Lib.hid (by have : ¬ (k : Int) < ((l.length : Nat) : Int) := (by simpa using h249); omega)
    clear h249
    refine wp_exit ?_
    refine then_exit (then_exit (block_exit ?_))
    refine then_normal ?_
    refine wp_seq ?_
    rw [show k = l.length by have := hge.out; omega] at HM248
    rw [rgC_congr (r := ⟨setG l (goneB a) 4 a.s l.length, a.p, a.e⟩) (r' := goneR a) (by rw [← hl.out]; exact setG_gone a)] at HM248
    refine wp_region_N [(0, 1), (1, 3)] (by kernel_rfl) ?_
    refine wpS_loadA (i := 0) (d := some 32) (cells := rgC ((goneR a)) (.slice pa a.p.2.2.length ca)) rfl (by rfl) rfl rfl (HM248.out.sub 0 rfl (fun k u h => by rw [Nat.zero_add]; exact h)) Try.underlying30 rfl (by kernel_rfl) rfl ?_
    simp only [Act.put, List.setIfInBounds_toArray, List.set_cons_succ, List.set_cons_zero]
    refine wpS_storeA (i := 1) (L2 := [_, _, _, _, _]) (cs' := rgC ((goneR a)) (.slice pa a.p.2.2.length ca)) rfl (by rfl) rfl rfl rfl (by kernel_rfl) (rgC_one _ _ _) HM248.out 1 rfl rfl (by kernel_rfl) (by kernel_rfl) covS_nil rfl ?_
    rintro W272 hm271 -
    have HM273 := Lib.hid hm271
    clear hm271
    refine wpS_nil ?_
    refine then_normal ?_
    refine wp_ret ?_
    refine ret_cell rfl HM273.out 0 rfl rfl Try.underlying30 rfl (by kernel_rfl) rfl ?_
    exact does_ret (Mem.only (M := [_]) HM273.out [5] rfl) rfl rfl

set_option maxHeartbeats 4000000 in
set_option maxRecDepth 100000 in
theorem gstage_d (R : At) (va : Value) (a : Rg) (ha : Reads elemI R va a.p.2.2) (la : a.p.2.2.length ≤ 1000) (me : Int) (vh : Value) (here : List Int) (hh : ∀ W H, R.p W H → RowAt elemI W vh here) (lh : here.length ≤ 1000) (f : Rg) (e : Int) (hf : stageR a me here = (f, e)) : DoesU Try.prog 10 #[rgV a va, .int .i64 me, vh] [R] (fun u => [ringTe u f (.int .i64 e), R]) := by
  intro w H hp
  have HM0 := Lib.hid (mem_refl hp)
  clear hp
  obtain ⟨pa, ca, rfl⟩ := row_form (Mem.src HM0.out 0 rfl ha)
  go_enter Try.func10, Try.ntmps10
  refine wp_seq ?_
  obtain ⟨z, hz'⟩ := int_letter (leaderR a here)
  have hz := Lib.hid hz'
  clear hz'
  refine wp_region_N [(0, 3), (1, 3), (2, 1)] (by kernel_rfl) ?_
  refine wpS_boxA (i := 0) (dd := 3) rfl (by rfl) rfl rfl HM0.out covS_nil rfl ?_
  rintro b3 W2 hm1 -
  have HM4 := Lib.hid hm1
  clear hm1
  simp only [Act.put, List.setIfInBounds_toArray, List.set_cons_succ, List.set_cons_zero]
  refine wpS_alloc (i := 1) (dd := 6) (z := rgV noR (.slice none 0 0)) (cs := (rgC noR (.slice none 0 0)).toArray) rfl (by rfl) rfl (by kernel_rfl) rfl HM4.out covS_nil rfl ?_
  rintro b7 W6 hm5 -
  have HM8 := Lib.hid hm5
  clear hm5
  simp only [Act.put, List.setIfInBounds_toArray, List.set_cons_succ, List.set_cons_zero]
  refine wpS_this [2] rfl (by kernel_rfl) (by simp only [pickL, nthL, List.cons_append, List.nil_append]; rfl) ?_
  repeat (go_big_quiet_step (fail))
  refine wpQuiet_nil ?_
  refine wpS_nil ?_
  refine then_normal ?_
  refine wp_seq ?_
  refine wp_seq ?_
  rcases (show mayR a = false ∨ (mayR a = true ∧ nodeE me = false) ∨ (mayR a = true ∧ nodeE me = true) from by cases mayR a <;> cases nodeE me <;> simp) with h1 | ⟨h1, h2⟩ | ⟨h1, h2⟩
  · have hq := hf.symm.trans (stage_arg (.inl h1))
    have q1 := (Prod.mk.inj hq).1
    have q2 := (Prod.mk.inj hq).2
    subst q1
    subst q2
    clear hq
    clear hf
    replace h1 := Lib.hid h1
    refine wp_region_N [(0, 1), (1, 3), (2, 1), (3, 1), (4, 1), (5, 3), (6, 1), (7, 1)] (by kernel_rfl) ?_
    refine wpS_loadA (i := 0) (d := some 10) (cells := rgC (a) (.slice pa a.p.2.2.length ca)) rfl (by rfl) rfl rfl (HM8.out.sub 1 rfl (fun k u h => by rw [Nat.zero_add]; exact h)) Try.underlying30 rfl (by kernel_rfl) rfl ?_
    simp only [Act.put, List.setIfInBounds_toArray, List.set_cons_succ, List.set_cons_zero]
    refine wpS_does1 (i := 1) (d := some 11) (rem := [_, _]) (out := [_, _, _]) rfl (by rfl) rfl Try.call12 (gmay_d R _ a ha la) rfl HM8.out [2] rfl covS_nil rfl rfl ?_
    rintro W10 hm9 -
    rw [h1.out]
    have HM11 := Lib.hid hm9
    clear hm9
    simp only [Act.put, List.setIfInBounds_toArray, List.set_cons_succ, List.set_cons_zero]
    refine wpS_this [2, 3, 4] rfl (by kernel_rfl) (by simp only [pickL, nthL, List.cons_append, List.nil_append]; rfl) ?_
    repeat (go_big_quiet_step (fail))
    refine wpQuiet_nil ?_
    refine wpS_skip (i := 5) (d := some 15) rfl (by rfl) rfl ?_
    simp only [Act.put, List.setIfInBounds_toArray, List.set_cons_succ, List.set_cons_zero]
    refine wpS_this [6, 7] rfl (by kernel_rfl) (by simp only [pickL, nthL, List.cons_append, List.nil_append]; rfl) ?_
    repeat (go_big_quiet_step (fail))
    refine wpQuiet_nil ?_
    refine wpS_nil ?_
    refine then_normal ?_
    refine wp_cond_true rfl ?_
    refine wp_seq ?_
    refine wp_region_N [(0, 1), (1, 3), (2, 1)] (by kernel_rfl) ?_
    refine wpS_read (i := 0) (d := some 18) (v := rgV noR (.slice none 0 0)) rfl (by rfl) (by kernel_rfl) rfl ?_
    simp only [Act.put, List.setIfInBounds_toArray, List.set_cons_succ, List.set_cons_zero]
    refine wpS_storeA (i := 1) (L2 := [_, _]) (cs' := rgC (noR) (.slice none 0 0)) rfl (by rfl) rfl rfl rfl (by kernel_rfl) (rgC_one _ _ _) HM11.out 1 rfl rfl (by kernel_rfl) (by kernel_rfl) covS_nil rfl ?_
    rintro W13 hm12 -
    have HM14 := Lib.hid hm12
    clear hm12
    refine wpS_this [2] rfl (by kernel_rfl) (by simp only [pickL, nthL, List.cons_append, List.nil_append]; rfl) ?_
    repeat (go_big_quiet_step (fail))
    refine wpQuiet_nil ?_
    refine wpS_nil ?_
    refine then_normal ?_
    refine wp_ret ?_
    refine then_ret ?_
    refine ret_cell_tmp rfl HM14.out 0 rfl rfl Try.underlying30 rfl (by kernel_rfl) rfl rfl ?_
    exact doesU_ret (post := fun u => [ringTe u noR (.int .i64 1), R]) (Mem.toRingE (p := none) (c := 0) (x := noR) (Mem.nilRow elemI (Mem.only (M := [_]) HM14.out [1] rfl))) rfl
  · have hq := hf.symm.trans (stage_arg (.inr h2))
    have q1 := (Prod.mk.inj hq).1
    have q2 := (Prod.mk.inj hq).2
    subst q1
    subst q2
    clear hq
    clear hf
    replace h1 := Lib.hid h1
    replace h2 := Lib.hid h2
    refine wp_region_N [(0, 1), (1, 3), (2, 1), (3, 1), (4, 1), (5, 3), (6, 1), (7, 1)] (by kernel_rfl) ?_
    refine wpS_loadA (i := 0) (d := some 10) (cells := rgC (a) (.slice pa a.p.2.2.length ca)) rfl (by rfl) rfl rfl (HM8.out.sub 1 rfl (fun k u h => by rw [Nat.zero_add]; exact h)) Try.underlying30 rfl (by kernel_rfl) rfl ?_
    simp only [Act.put, List.setIfInBounds_toArray, List.set_cons_succ, List.set_cons_zero]
    refine wpS_does1 (i := 1) (d := some 11) (rem := [_, _]) (out := [_, _, _]) rfl (by rfl) rfl Try.call12 (gmay_d R _ a ha la) rfl HM8.out [2] rfl covS_nil rfl rfl ?_
    rintro W16 hm15 -
    rw [h1.out]
    have HM17 := Lib.hid hm15
    clear hm15
    simp only [Act.put, List.setIfInBounds_toArray, List.set_cons_succ, List.set_cons_zero]
    refine wpS_this [2, 3, 4] rfl (by kernel_rfl) (by simp only [pickL, nthL, List.cons_append, List.nil_append]; rfl) ?_
    repeat (go_big_quiet_step (fail))
    refine wpQuiet_nil ?_
    refine wpS_does1 (i := 5) (d := some 15) (rem := [_, _, _]) (out := [_, _, _]) rfl (by rfl) rfl Try.call24 (ldnode_d me) rfl HM17.out [] rfl covS_nil rfl rfl ?_
    rintro W19 hm18 -
    rw [h2.out]
    have HM20 := Lib.hid hm18
    clear hm18
    simp only [Act.put, List.setIfInBounds_toArray, List.set_cons_succ, List.set_cons_zero]
    refine wpS_this [6, 7] rfl (by kernel_rfl) (by simp only [pickL, nthL, List.cons_append, List.nil_append]; rfl) ?_
    repeat (go_big_quiet_step (fail))
    refine wpQuiet_nil ?_
    refine wpS_nil ?_
    refine then_normal ?_
    refine wp_cond_true rfl ?_
    refine wp_seq ?_
    refine wp_region_N [(0, 1), (1, 3), (2, 1)] (by kernel_rfl) ?_
    refine wpS_read (i := 0) (d := some 18) (v := rgV noR (.slice none 0 0)) rfl (by rfl) (by kernel_rfl) rfl ?_
    simp only [Act.put, List.setIfInBounds_toArray, List.set_cons_succ, List.set_cons_zero]
    refine wpS_storeA (i := 1) (L2 := [_, _]) (cs' := rgC (noR) (.slice none 0 0)) rfl (by rfl) rfl rfl rfl (by kernel_rfl) (rgC_one _ _ _) HM20.out 1 rfl rfl (by kernel_rfl) (by kernel_rfl) covS_nil rfl ?_
    rintro W22 hm21 -
    have HM23 := Lib.hid hm21
    clear hm21
    refine wpS_this [2] rfl (by kernel_rfl) (by simp only [pickL, nthL, List.cons_append, List.nil_append]; rfl) ?_
    repeat (go_big_quiet_step (fail))
    refine wpQuiet_nil ?_
    refine wpS_nil ?_
    refine then_normal ?_
    refine wp_ret ?_
    refine then_ret ?_
    refine ret_cell_tmp rfl HM23.out 0 rfl rfl Try.underlying30 rfl (by kernel_rfl) rfl rfl ?_
    exact doesU_ret (post := fun u => [ringTe u noR (.int .i64 1), R]) (Mem.toRingE (p := none) (c := 0) (x := noR) (Mem.nilRow elemI (Mem.only (M := [_]) HM23.out [1] rfl))) rfl
  · replace h1 := Lib.hid h1
    replace h2 := Lib.hid h2
    refine wp_region_N [(0, 1), (1, 3), (2, 1), (3, 1), (4, 1), (5, 3), (6, 1), (7, 1)] (by kernel_rfl) ?_
    refine wpS_loadA (i := 0) (d := some 10) (cells := rgC (a) (.slice pa a.p.2.2.length ca)) rfl (by rfl) rfl rfl (HM8.out.sub 1 rfl (fun k u h => by rw [Nat.zero_add]; exact h)) Try.underlying30 rfl (by kernel_rfl) rfl ?_
    simp only [Act.put, List.setIfInBounds_toArray, List.set_cons_succ, List.set_cons_zero]
    refine wpS_does1 (i := 1) (d := some 11) (rem := [_, _]) (out := [_, _, _]) rfl (by rfl) rfl Try.call12 (gmay_d R _ a ha la) rfl HM8.out [2] rfl covS_nil rfl rfl ?_
    rintro W25 hm24 -
    rw [h1.out]
    have HM26 := Lib.hid hm24
    clear hm24
    simp only [Act.put, List.setIfInBounds_toArray, List.set_cons_succ, List.set_cons_zero]
    refine wpS_this [2, 3, 4] rfl (by kernel_rfl) (by simp only [pickL, nthL, List.cons_append, List.nil_append]; rfl) ?_
    repeat (go_big_quiet_step (fail))
    refine wpQuiet_nil ?_
    refine wpS_does1 (i := 5) (d := some 15) (rem := [_, _, _]) (out := [_, _, _]) rfl (by rfl) rfl Try.call24 (ldnode_d me) rfl HM26.out [] rfl covS_nil rfl rfl ?_
    rintro W28 hm27 -
    rw [h2.out]
    have HM29 := Lib.hid hm27
    clear hm27
    simp only [Act.put, List.setIfInBounds_toArray, List.set_cons_succ, List.set_cons_zero]
    refine wpS_this [6, 7] rfl (by kernel_rfl) (by simp only [pickL, nthL, List.cons_append, List.nil_append]; rfl) ?_
    repeat (go_big_quiet_step (fail))
    refine wpQuiet_nil ?_
    refine wpS_nil ?_
    refine then_normal ?_
    refine wp_cond_false rfl ?_
    refine wp_skip ?_
    refine then_normal ?_
    refine wp_seq ?_
    refine wp_seq ?_
    by_cases hz0 : z = me
    · have g1 : (z != me) = false := by rw [bne_eq_false_iff_eq]; exact hz0
      have hle : Hid (leaderR a here = me) := Lib.hid (hz.out.trans hz0)
      clear hz0
      obtain ⟨b, we, hwr'⟩ := ringE_letters (withR a me)
      have lb : b.p.2.2.length ≤ 1000 := with_len hwr' la
      have hwr := Lib.hid hwr'
      clear hwr'
      have hq0 := hf.symm.trans (stage_to h1.out h2.out hle.out hwr.out)
      clear hf
      refine wp_region_N [(0, 1), (1, 1), (2, 3), (3, 1), (4, 1)] (by kernel_rfl) ?_
      refine wpS_loadA (i := 0) (d := some 19) (cells := rgC (a) (.slice pa a.p.2.2.length ca)) rfl (by rfl) rfl rfl (HM29.out.sub 2 rfl (fun k u h => by rw [Nat.zero_add]; exact h)) Try.underlying30 rfl (by kernel_rfl) rfl ?_
      simp only [Act.put, List.setIfInBounds_toArray, List.set_cons_succ, List.set_cons_zero]
      refine wpS_this [1] rfl (by kernel_rfl) (by simp only [pickL, nthL, List.cons_append, List.nil_append]; rfl) ?_
      repeat (go_big_quiet_step (fail))
      refine wpQuiet_nil ?_
      refine wpS_does2 (i := 2) (d := some 21) (rem := [_, _]) (out := [_, _, _]) rfl (by rfl) rfl Try.call14 (gleader_d R _ a ha la _ here hh lh) rfl rfl HM29.out [0] rfl covS_nil rfl rfl ?_
      rintro W31 hm30 -
      rw [hz.out]
      have HM32 := Lib.hid hm30
      clear hm30
      simp only [Act.put, List.setIfInBounds_toArray, List.set_cons_succ, List.set_cons_zero]
      refine wpS_this [3, 4] rfl (by kernel_rfl) (by simp only [pickL, nthL, List.cons_append, List.nil_append]; rfl) ?_
      repeat (go_big_quiet_step (fail))
      refine wpQuiet_nil ?_
      refine wpS_nil ?_
      refine then_normal ?_
      refine wp_cond_false rfl ?_
      refine wp_skip ?_
      refine then_normal ?_
      refine wp_seq ?_
      refine wp_region_N [(0, 1), (1, 1), (2, 3), (3, 1), (4, 1), (5, 1), (6, 3), (7, 3), (8, 1)] (by kernel_rfl) ?_
      refine wpS_loadA (i := 0) (d := some 26) (cells := rgC (a) (.slice pa a.p.2.2.length ca)) rfl (by rfl) rfl rfl (HM32.out.sub 2 rfl (fun k u h => by rw [Nat.zero_add]; exact h)) Try.underlying30 rfl (by kernel_rfl) rfl ?_
      simp only [Act.put, List.setIfInBounds_toArray, List.set_cons_succ, List.set_cons_zero]
      refine wpS_this [1] rfl (by kernel_rfl) (by simp only [pickL, nthL, List.cons_append, List.nil_append]; rfl) ?_
      repeat (go_big_quiet_step (fail))
      refine wpQuiet_nil ?_
      refine wpS_doesU2 (i := 2) (d := some 28) (rem := [_, _]) rfl (by rfl) rfl Try.call25 (withm_d R _ a ha la me b we hwr.out) rfl rfl HM32.out [0] rfl covS_nil (fun _ => rfl) rfl ?_
      rintro u35 W34 hm33 -
      obtain ⟨pb, cb, X, rfl, hX, hm33q⟩ := Mem.ofWith hm33
      clear hm33
      have HM36 := Lib.hid hm33q
      clear hm33q
      simp only [Act.put, List.setIfInBounds_toArray, List.set_cons_succ, List.set_cons_zero]
      refine wpS_this [3, 4, 5] rfl (by kernel_rfl) (by simp only [pickL, nthL, List.cons_append, List.nil_append]; rfl) ?_
      repeat (go_big_quiet_step (fail))
      refine wpQuiet_nil ?_
      refine wpS_alloc (i := 6) (dd := 8) (z := rgV noR (.slice none 0 0)) (cs := (rgC noR (.slice none 0 0)).toArray) rfl (by rfl) rfl (by kernel_rfl) rfl HM36.out covS_nil rfl ?_
      rintro b39 W38 hm37 -
      have HM40 := Lib.hid hm37
      clear hm37
      simp only [Act.put, List.setIfInBounds_toArray, List.set_cons_succ, List.set_cons_zero]
      refine wpS_storeA (i := 7) (L2 := [_, _, _, _]) (cs' := rgC (b) (.slice pb b.p.2.2.length cb)) rfl (by rfl) rfl rfl rfl (by kernel_rfl) (rgC_one _ _ _) HM40.out 0 rfl rfl (by kernel_rfl) (by kernel_rfl) covS_nil rfl ?_
      rintro W42 hm41 -
      have HM43 := Lib.hid hm41
      clear hm41
      refine wpS_this [8] rfl (by kernel_rfl) (by simp only [pickL, nthL, List.cons_append, List.nil_append]; rfl) ?_
      repeat (go_big_quiet_step (fail))
      refine wpQuiet_nil ?_
      refine wpS_nil ?_
      refine then_normal ?_
      refine wp_seq ?_
      refine wp_seq ?_
      by_cases hwe : we = 0
      · have g2 : (we != 0) = false := by rw [bne_eq_false_iff_eq]; exact hwe
        rw [if_pos hwe] at hq0
        replace hwe := Lib.hid hwe
        refine wp_region_N [(0, 1), (1, 1)] (by kernel_rfl) ?_
        refine wpS_this [0, 1] rfl (by kernel_rfl) (by simp only [pickL, nthL, List.cons_append, List.nil_append]; rfl) ?_
        repeat (go_big_quiet_step (fail))
        refine wpQuiet_nil ?_
        refine wpS_nil ?_
        refine then_normal ?_
        refine wp_cond_false rfl ?_
        refine wp_skip ?_
        refine then_normal ?_
        refine wp_seq ?_
        refine wp_region_N [(0, 1), (1, 3), (2, 3)] (by kernel_rfl) ?_
        refine wpS_loadA (i := 0) (d := some 35) (cells := rgC (b) (.slice pb b.p.2.2.length cb)) rfl (by rfl) rfl rfl (HM43.out.sub 0 rfl (fun k u h => by rw [Nat.zero_add]; exact h)) Try.underlying30 rfl (by kernel_rfl) rfl ?_
        simp only [Act.put, List.setIfInBounds_toArray, List.set_cons_succ, List.set_cons_zero]
        refine wpS_does1 (i := 1) (d := some 36) (rem := [_, _, _]) (out := [_, _, _, _, _]) rfl (by rfl) rfl Try.call26 (Does.ofList (gone_d (listT [X, R]) _ b hX lb)) rfl HM43.out [1, 1] rfl covS_nil rfl rfl ?_
        rintro W45 hm44 -
        have HM46 := Lib.hid hm44
        clear hm44
        simp only [Act.put, List.setIfInBounds_toArray, List.set_cons_succ, List.set_cons_zero]
        refine wpS_storeA (i := 2) (L2 := [_, _, _, _]) (cs' := rgC ((goneR b)) (.slice pb b.p.2.2.length cb)) rfl (by rfl) rfl rfl rfl (by kernel_rfl) (rgC_one _ _ _) HM46.out 2 rfl rfl (by kernel_rfl) (by kernel_rfl) covS_nil rfl ?_
        rintro W48 hm47 -
        have HM49 := Lib.hid hm47
        clear hm47
        refine wpS_nil ?_
        refine then_normal ?_
        refine wp_seq ?_
        refine wp_seq ?_
        rcases Bool.eq_false_or_eq_true (sameR (goneR b) a) with hsm | hsm
        · rw [if_pos hsm] at hq0
          have q1 := (Prod.mk.inj hq0).1
          have q2 := (Prod.mk.inj hq0).2
          subst q1
          subst q2
          clear hq0
          replace hsm := Lib.hid hsm
          refine wp_region_N [(0, 1), (1, 1), (2, 3)] (by kernel_rfl) ?_
          refine wpS_loadA (i := 0) (d := some 37) (cells := rgC ((goneR b)) (.slice pb b.p.2.2.length cb)) rfl (by rfl) rfl rfl (HM49.out.sub 0 rfl (fun k u h => by rw [Nat.zero_add]; exact h)) Try.underlying30 rfl (by kernel_rfl) rfl ?_
          simp only [Act.put, List.setIfInBounds_toArray, List.set_cons_succ, List.set_cons_zero]
          refine wpS_loadA (i := 1) (d := some 38) (cells := rgC (a) (.slice pa a.p.2.2.length ca)) rfl (by rfl) rfl rfl (HM49.out.sub 4 rfl (fun k u h => by rw [Nat.zero_add]; exact h)) Try.underlying30 rfl (by kernel_rfl) rfl ?_
          simp only [Act.put, List.setIfInBounds_toArray, List.set_cons_succ, List.set_cons_zero]
          refine wpS_does2 (i := 2) (d := some 39) (rem := [_, _, _]) (out := [_, _, _, _, _]) rfl (by rfl) rfl Try.call11 (Does.ofList (gsame_d (listT [X, R]) _ (goneR b) hX lb _ a (srcL 1 rfl ha) la)) rfl rfl HM49.out [1, 1] rfl covS_nil rfl rfl ?_
          rintro W51 hm50 -
          rw [hsm.out]
          have HM52 := Lib.hid hm50
          clear hm50
          simp only [Act.put, List.setIfInBounds_toArray, List.set_cons_succ, List.set_cons_zero]
          refine wpS_nil ?_
          refine then_normal ?_
          refine wp_cond_true rfl ?_
          refine wp_seq ?_
          refine wp_region_N [(0, 1), (1, 3), (2, 1)] (by kernel_rfl) ?_
          refine wpS_read (i := 0) (d := some 40) (v := rgV noR (.slice none 0 0)) rfl (by rfl) (by kernel_rfl) rfl ?_
          simp only [Act.put, List.setIfInBounds_toArray, List.set_cons_succ, List.set_cons_zero]
          refine wpS_storeA (i := 1) (L2 := [_, _, _, _]) (cs' := rgC (noR) (.slice none 0 0)) rfl (by rfl) rfl rfl rfl (by kernel_rfl) (rgC_one _ _ _) HM52.out 3 rfl rfl (by kernel_rfl) (by kernel_rfl) covS_nil rfl ?_
          rintro W54 hm53 -
          have HM55 := Lib.hid hm53
          clear hm53
          refine wpS_this [2] rfl (by kernel_rfl) (by simp only [pickL, nthL, List.cons_append, List.nil_append]; rfl) ?_
          repeat (go_big_quiet_step (fail))
          refine wpQuiet_nil ?_
          refine wpS_nil ?_
          refine then_normal ?_
          refine wp_ret ?_
          refine then_ret ?_
          refine ret_cell_tmp rfl HM55.out 0 rfl rfl Try.underlying30 rfl (by kernel_rfl) rfl rfl ?_
          exact doesU_ret (post := fun u => [ringTe u noR (.int .i64 9), R]) (Mem.toRingE (p := none) (c := 0) (x := noR) (Mem.nilRow elemI (Mem.only (M := [_]) HM55.out [2] rfl))) rfl
        · rw [if_neg (by rw [hsm]; simp)] at hq0
          have q1 := (Prod.mk.inj hq0).1
          have q2 := (Prod.mk.inj hq0).2
          subst q1
          subst q2
          clear hq0
          replace hsm := Lib.hid hsm
          refine wp_region_N [(0, 1), (1, 1), (2, 3)] (by kernel_rfl) ?_
          refine wpS_loadA (i := 0) (d := some 37) (cells := rgC ((goneR b)) (.slice pb b.p.2.2.length cb)) rfl (by rfl) rfl rfl (HM49.out.sub 0 rfl (fun k u h => by rw [Nat.zero_add]; exact h)) Try.underlying30 rfl (by kernel_rfl) rfl ?_
          simp only [Act.put, List.setIfInBounds_toArray, List.set_cons_succ, List.set_cons_zero]
          refine wpS_loadA (i := 1) (d := some 38) (cells := rgC (a) (.slice pa a.p.2.2.length ca)) rfl (by rfl) rfl rfl (HM49.out.sub 4 rfl (fun k u h => by rw [Nat.zero_add]; exact h)) Try.underlying30 rfl (by kernel_rfl) rfl ?_
          simp only [Act.put, List.setIfInBounds_toArray, List.set_cons_succ, List.set_cons_zero]
          refine wpS_does2 (i := 2) (d := some 39) (rem := [_, _, _]) (out := [_, _, _, _, _]) rfl (by rfl) rfl Try.call11 (Does.ofList (gsame_d (listT [X, R]) _ (goneR b) hX lb _ a (srcL 1 rfl ha) la)) rfl rfl HM49.out [1, 1] rfl covS_nil rfl rfl ?_
          rintro W57 hm56 -
          rw [hsm.out]
          have HM58 := Lib.hid hm56
          clear hm56
          simp only [Act.put, List.setIfInBounds_toArray, List.set_cons_succ, List.set_cons_zero]
          refine wpS_nil ?_
          refine then_normal ?_
          refine wp_cond_false rfl ?_
          refine wp_skip ?_
          refine then_normal ?_
          refine wp_seq ?_
          refine wp_region_N [(0, 1), (1, 1), (2, 1), (3, 3), (4, 1), (5, 1), (6, 3)] (by kernel_rfl) ?_
          refine wpS_this [0, 1] rfl (by kernel_rfl) (by simp only [pickL, nthL, List.cons_append, List.nil_append]; rfl) ?_
          repeat (go_big_quiet_step (fail))
          refine wpQuiet_nil ?_
          refine wpS_load1 (i := 2) (d := some 43) (u := .slice pb b.p.2.2.length cb) rfl (by rfl) rfl rfl (HM58.out.sub1 2 rfl (rgC_pl 2 _ rfl)) Try.underlying23 rfl rfl ?_
          simp only [Act.put, List.setIfInBounds_toArray, List.set_cons_succ, List.set_cons_zero]
          refine wpS_doesU1 (i := 3) (d := some 44) (rem := [_, _, _]) rfl (by rfl) rfl Try.call27 (DoesU.ofList (clone_d (listT [X, R]) _ b.p.2.2 hX lb)) rfl HM58.out [0, 0] rfl covS_nil (fun _ => rfl) rfl ?_
          rintro u61 W60 hm59 -
          obtain ⟨vp, vc, rfl⟩ := row_form (Mem.src hm59 0 rfl rowT_reads)
          have HM62 := Lib.hid hm59
          clear hm59
          simp only [Act.put, List.setIfInBounds_toArray, List.set_cons_succ, List.set_cons_zero]
          refine wpS_this [4, 5] rfl (by kernel_rfl) (by simp only [pickL, nthL, List.cons_append, List.nil_append]; rfl) ?_
          repeat (go_big_quiet_step (fail))
          refine wpQuiet_nil ?_
          refine wpS_store1 (i := 6) (v := .slice _ _ _) (L2 := [_, _, _, _, _]) (cs' := rgC ((goneR b)) (.slice vp b.p.2.2.length vc)) rfl (by rfl) rfl rfl rfl rfl (by kernel_rfl) rfl HM62.out 3 rfl rfl (by kernel_rfl) (rgC_setSl _ _ _) covS_nil rfl ?_
          rintro W64 hm63 -
          have HM65 := Lib.hid hm63
          clear hm63
          refine wpS_nil ?_
          refine then_normal ?_
          refine wp_seq ?_
          refine wp_region_N [(0, 1), (1, 3), (2, 1)] (by kernel_rfl) ?_
          refine wpS_loadA (i := 0) (d := some 47) (cells := rgC ((goneR b)) (.slice vp b.p.2.2.length vc)) rfl (by rfl) rfl rfl (HM65.out.sub 0 rfl (fun k u h => by rw [Nat.zero_add]; exact h)) Try.underlying30 rfl (by kernel_rfl) rfl ?_
          simp only [Act.put, List.setIfInBounds_toArray, List.set_cons_succ, List.set_cons_zero]
          refine wpS_storeA (i := 1) (L2 := [_, _, _, _, _]) (cs' := rgC ((goneR b)) (.slice vp b.p.2.2.length vc)) rfl (by rfl) rfl rfl rfl (by kernel_rfl) (rgC_one _ _ _) HM65.out 4 rfl rfl (by kernel_rfl) (by kernel_rfl) covS_nil rfl ?_
          rintro W67 hm66 -
          have HM68 := Lib.hid hm66
          clear hm66
          refine wpS_this [2] rfl (by kernel_rfl) (by simp only [pickL, nthL, List.cons_append, List.nil_append]; rfl) ?_
          repeat (go_big_quiet_step (fail))
          refine wpQuiet_nil ?_
          refine wpS_nil ?_
          refine then_normal ?_
          refine wp_ret ?_
          refine ret_cell_tmp rfl HM68.out 0 rfl rfl Try.underlying30 rfl (by kernel_rfl) rfl rfl ?_
          exact doesU_ret (post := fun u => [ringTe u (goneR b) (.int .i64 0), R]) (Mem.toRingE (x := goneR b) (Mem.only (M := [_, _]) HM68.out [2, 3] rfl)) rfl
      · have g2 : (we != 0) = true := bne_iff_ne.2 hwe
        rw [if_neg hwe] at hq0
        have q1 := (Prod.mk.inj hq0).1
        have q2 := (Prod.mk.inj hq0).2
        subst f
        subst e
        clear hq0
        replace hwe := Lib.hid hwe
        refine wp_region_N [(0, 1), (1, 1)] (by kernel_rfl) ?_
        refine wpS_this [0, 1] rfl (by kernel_rfl) (by simp only [pickL, nthL, List.cons_append, List.nil_append]; rfl) ?_
        repeat (go_big_quiet_step (fail))
        refine wpQuiet_nil ?_
        refine wpS_nil ?_
        refine then_normal ?_
        refine wp_cond_true rfl ?_
        refine wp_seq ?_
        refine wp_region_N [(0, 1), (1, 1), (2, 3), (3, 1)] (by kernel_rfl) ?_
        refine wpS_read (i := 0) (d := some 33) (v := rgV noR (.slice none 0 0)) rfl (by rfl) (by kernel_rfl) rfl ?_
        simp only [Act.put, List.setIfInBounds_toArray, List.set_cons_succ, List.set_cons_zero]
        refine wpS_this [1] rfl (by kernel_rfl) (by simp only [pickL, nthL, List.cons_append, List.nil_append]; rfl) ?_
        repeat (go_big_quiet_step (fail))
        refine wpQuiet_nil ?_
        refine wpS_storeA (i := 2) (L2 := [_, _, _, _]) (cs' := rgC (noR) (.slice none 0 0)) rfl (by rfl) rfl rfl rfl (by kernel_rfl) (rgC_one _ _ _) HM43.out 3 rfl rfl (by kernel_rfl) (by kernel_rfl) covS_nil rfl ?_
        rintro W70 hm69 -
        have HM71 := Lib.hid hm69
        clear hm69
        refine wpS_this [3] rfl (by kernel_rfl) (by simp only [pickL, nthL, List.cons_append, List.nil_append]; rfl) ?_
        repeat (go_big_quiet_step (fail))
        refine wpQuiet_nil ?_
        refine wpS_nil ?_
        refine then_normal ?_
        refine wp_ret ?_
        refine then_ret ?_
        refine ret_cell_tmp rfl HM71.out 0 rfl rfl Try.underlying30 rfl (by kernel_rfl) rfl rfl ?_
        exact doesU_ret (post := fun u => [ringTe u noR (.int .i64 we), R]) (Mem.toRingE (p := none) (c := 0) (x := noR) (Mem.nilRow elemI (Mem.only (M := [_]) HM71.out [3] rfl))) rfl
    · have g1 : (z != me) = true := bne_iff_ne.2 hz0
      have hq := hf.symm.trans (stage_else h1.out h2.out (by rw [hz.out]; exact hz0))
      have q1 := (Prod.mk.inj hq).1
      have q2 := (Prod.mk.inj hq).2
      subst q1
      subst q2
      clear hq
      clear hf
      clear hz0
      refine wp_region_N [(0, 1), (1, 1), (2, 3), (3, 1), (4, 1)] (by kernel_rfl) ?_
      refine wpS_loadA (i := 0) (d := some 19) (cells := rgC (a) (.slice pa a.p.2.2.length ca)) rfl (by rfl) rfl rfl (HM29.out.sub 2 rfl (fun k u h => by rw [Nat.zero_add]; exact h)) Try.underlying30 rfl (by kernel_rfl) rfl ?_
      simp only [Act.put, List.setIfInBounds_toArray, List.set_cons_succ, List.set_cons_zero]
      refine wpS_this [1] rfl (by kernel_rfl) (by simp only [pickL, nthL, List.cons_append, List.nil_append]; rfl) ?_
      repeat (go_big_quiet_step (fail))
      refine wpQuiet_nil ?_
      refine wpS_does2 (i := 2) (d := some 21) (rem := [_, _]) (out := [_, _, _]) rfl (by rfl) rfl Try.call14 (gleader_d R _ a ha la _ here hh lh) rfl rfl HM29.out [0] rfl covS_nil rfl rfl ?_
      rintro W73 hm72 -
      rw [hz.out]
      have HM74 := Lib.hid hm72
      clear hm72
      simp only [Act.put, List.setIfInBounds_toArray, List.set_cons_succ, List.set_cons_zero]
      refine wpS_this [3, 4] rfl (by kernel_rfl) (by simp only [pickL, nthL, List.cons_append, List.nil_append]; rfl) ?_
      repeat (go_big_quiet_step (fail))
      refine wpQuiet_nil ?_
      refine wpS_nil ?_
      refine then_normal ?_
      refine wp_cond_true rfl ?_
      refine wp_seq ?_
      refine wp_region_N [(0, 1), (1, 3), (2, 1)] (by kernel_rfl) ?_
      refine wpS_read (i := 0) (d := some 24) (v := rgV noR (.slice none 0 0)) rfl (by rfl) (by kernel_rfl) rfl ?_
      simp only [Act.put, List.setIfInBounds_toArray, List.set_cons_succ, List.set_cons_zero]
      refine wpS_storeA (i := 1) (L2 := [_, _]) (cs' := rgC (noR) (.slice none 0 0)) rfl (by rfl) rfl rfl rfl (by kernel_rfl) (rgC_one _ _ _) HM74.out 1 rfl rfl (by kernel_rfl) (by kernel_rfl) covS_nil rfl ?_
      rintro W76 hm75 -
      have HM77 := Lib.hid hm75
      clear hm75
      refine wpS_this [2] rfl (by kernel_rfl) (by simp only [pickL, nthL, List.cons_append, List.nil_append]; rfl) ?_
      repeat (go_big_quiet_step (fail))
      refine wpQuiet_nil ?_
      refine wpS_nil ?_
      refine then_normal ?_
      refine wp_ret ?_
      refine then_ret ?_
      refine ret_cell_tmp rfl HM77.out 0 rfl rfl Try.underlying30 rfl (by kernel_rfl) rfl rfl ?_
      exact doesU_ret (post := fun u => [ringTe u noR (.int .i64 10), R]) (Mem.toRingE (p := none) (c := 0) (x := noR) (Mem.nilRow elemI (Mem.only (M := [_]) HM77.out [1] rfl))) rfl

end Go.Proofs.Ytdfmfcbeebfdhaa
