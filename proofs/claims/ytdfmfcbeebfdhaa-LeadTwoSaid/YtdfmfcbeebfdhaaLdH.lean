/- Lead: LeadTwo. -/
import Derived.Test.YtdfmfcbeebfdhaaLdA
namespace Go.Proofs.Ytdfmfcbeebfdhaa
open Go Go.RowKit Go.BigFrame

theorem lead_or (a : Rg) (h : List Int) : leaderR a h = -1 ∨ ∃ n : Nat, leaderR a h = (n : Int) ∧ n < 8 := by
  rcases leader_ways a h with ⟨e, _⟩ | ⟨n, e, h2, _⟩
  · exact .inl e
  · exact .inr ⟨n, e, h2⟩
theorem two_ways {j z : Rg} {n : Nat} {ze : Int} {l : List Int} (hj : mayR j = true) (hn : n < 8) (hl : leaderR j l = (n : Int)) (hz : stageR j (n : Int) l = (z, ze)) : (ze = 0 ∧ Staged j z (n : Int) l) ∨ (ze = 9 ∧ z = noR) ∨ (ze = 6 ∧ z = noR) := by
  rcases stage_ways j (n : Int) l with ⟨h1, h2⟩ | ⟨e, h1, h2⟩
  · rw [hz] at h1 h2
    exact .inl ⟨h1, h2⟩
  · rw [hz] at h1
    obtain ⟨e1, e2⟩ := Prod.mk.inj h1
    subst e2
    rcases h2 with ⟨_, h3 | h3⟩ | ⟨_, h3⟩ | ⟨h3, _⟩ | ⟨h3, _⟩
    · rw [hj] at h3; cases h3
    · rw [node_nat hn] at h3; cases h3
    · exact absurd hl h3
    · exact .inr (.inr ⟨h3, e1⟩)
    · exact .inr (.inl ⟨h3, e1⟩)
set_option maxHeartbeats 4000000 in
set_option maxRecDepth 100000 in
theorem two_d (W0 : World) (va : Value) (a : Rg) (ha : SrcE elemI W0 va a.p.2.2) (vh : Value) (sh : List Int) (hh : SrcE elemI W0 vh sh) (vk : Value) (sk : List Int) (hk : SrcE elemI W0 vk sk) : Does Try.prog 6 #[rgV a va, vh, vk] [oldT W0] (.bool true) [oldT W0] := by
  intro w H hp
  have HM0 := Lib.hid (mem_refl hp)
  clear hp
  obtain ⟨pa, ca, rfl⟩ := row_form ha
  obtain ⟨ph, ch, rfl⟩ := row_form hh
  obtain ⟨pk, ck, rfl⟩ := row_form hk
  go_enter Try.func6, Try.ntmps6
  refine wp_seq ?_
  refine wp_region_N [(0, 3), (1, 1)] (by kernel_rfl) ?_
  refine wpS_boxA (i := 0) (dd := 3) rfl (by rfl) rfl rfl HM0.out covS_nil rfl ?_
  rintro b3 W2 hm1 -
  have HM4 := Lib.hid hm1
  clear hm1
  simp only [Act.put, List.setIfInBounds_toArray, List.set_cons_succ, List.set_cons_zero]
  refine wpS_this [1] rfl (by kernel_rfl) (by simp only [pickL, nthL, List.cons_append, List.nil_append]; rfl) ?_
  repeat (go_big_quiet_step (fail))
  refine wpQuiet_nil ?_
  refine wpS_nil ?_
  refine then_normal ?_
  refine wp_seq ?_
  refine wp_seq ?_
  rcases hvy1hh ⟨a, pa, a.p.2.2.length, ca⟩ sh sk with ⟨hw, hfw, hl1, hl2⟩ | ⟨hw, hfw, hl1, hl2⟩ | ⟨hw, hfw, hl1⟩ | ⟨hw, hfw⟩
  · replace hw : a.p.2.2.length ≤ 100 := hw
    replace hfw : Hid (hvy 0 [⟨a, pa, a.p.2.2.length, ca⟩] = 0) := Lib.hid hfw
    have la : a.p.2.2.length ≤ 1000 := by omega
    clear hw
    have g60h : decide (60 < sh.length) = false := decide_eq_false (by omega)
    have g60h' : decide ((60 : Int) < (sh.length : Int)) = false := decide_eq_false (by omega)
    have g60k : decide (60 < sk.length) = false := decide_eq_false (by omega)
    have g60k' : decide ((60 : Int) < (sk.length : Int)) = false := decide_eq_false (by omega)
    have lh : sh.length ≤ 1000 := by omega
    have lk : sk.length ≤ 1000 := by omega
    refine wp_region_N [(0, 1), (1, 3), (2, 3), (3, 1), (4, 1), (5, 1), (6, 1), (7, 1), (8, 1), (9, 1), (10, 1), (11, 1), (12, 1), (13, 1)] (by kernel_rfl) ?_
    refine wpS_loadA (i := 0) (d := some 20) (cells := rgC (a) (.slice pa a.p.2.2.length ca)) rfl (by rfl) rfl rfl (HM4.out.sub 0 rfl (fun k u h => by rw [Nat.zero_add]; exact h)) Try.underlying30 rfl (by kernel_rfl) rfl ?_
    simp only [Act.put, List.setIfInBounds_toArray, List.set_cons_succ, List.set_cons_zero]
    refine wpS_buildN elemR (i := 1) (dd := 21) (n := 1) (xs := [⟨a, pa, a.p.2.2.length, ca⟩]) (cs := (rgC a (.slice pa a.p.2.2.length ca) ++ []).toArray) rfl (by rfl) (fun _ => by kernel_rfl) rfl rfl HM4.out covS_nil rfl ?_
    rintro b7 W8 hm9 -
    have HM10 := Lib.hid hm9
    clear hm9
    simp only [Act.put, List.setIfInBounds_toArray, List.set_cons_succ, List.set_cons_zero]
    refine wpS_does1 (i := 2) (d := some 22) (rem := [_, _]) (out := [_, _, _]) rfl (by rfl) rfl Try.call8 (heavy_d (rowT elemR _ _) _ _ rowOwnE (Nat.le_of_ble_eq_true rfl)) rfl HM10.out [0] rfl covS_nil rfl rfl ?_
    rintro W12 hm11 -
    rw [hfw.out]
    have HM13 := Lib.hid hm11
    clear hm11
    simp only [Act.put, List.setIfInBounds_toArray, List.set_cons_succ, List.set_cons_zero]
    refine wpS_this [3, 4, 5, 6, 7, 8, 9, 10, 11, 12, 13] rfl (by kernel_rfl) (by simp only [pickL, nthL, List.cons_append, List.nil_append]; rfl) ?_
    repeat (go_big_quiet_step (fail))
    refine wpQuiet_nil ?_
    refine wpS_nil ?_
    refine then_normal ?_
    refine wp_cond_false rfl ?_
    refine wp_skip ?_
    refine then_normal ?_
    refine wp_seq ?_
    obtain ⟨z1, hz1'⟩ := int_letter (leaderR a sh)
    have hz1 := Lib.hid hz1'
    clear hz1'
    obtain ⟨z2, hz2'⟩ := int_letter (leaderR a sk)
    have hz2 := Lib.hid hz2'
    clear hz2'
    refine wp_region_M (fun k => k ∈ ([b3] : List Nat)) [(0, 1), (1, 1), (3, 2), (4, 0), (2, 3), (5, 3), (6, 1), (7, 1)] (by kernel_rfl) (by kernel_rfl) HM13.out ?_
    intro W14 hm15
    have HM16 := Lib.hid hm15
    clear hm15
    refine wpS_loadA (i := 0) (d := some 35) (cells := rgC (a) (.slice pa a.p.2.2.length ca)) rfl (by rfl) rfl rfl (HM16.out.sub 1 rfl (fun k u h => by rw [Nat.zero_add]; exact h)) Try.underlying30 rfl (by kernel_rfl) rfl ?_
    simp only [Act.put, List.setIfInBounds_toArray, List.set_cons_succ, List.set_cons_zero]
    refine wpS_this [1] rfl (by kernel_rfl) (by simp only [pickL, nthL, List.cons_append, List.nil_append]; rfl) ?_
    repeat (go_big_quiet_step (fail))
    refine wpQuiet_nil ?_
    refine wpS_loadA2 (i := 3) (d := some 38) (cells := rgC (a) (.slice pa a.p.2.2.length ca)) rfl (by rfl) rfl rfl (by simp) (HM16.out.sub 1 rfl (fun k u h => by rw [Nat.zero_add]; exact h)) Try.underlying30 rfl (by kernel_rfl) rfl ?_
    simp only [Act.put, List.setIfInBounds_toArray, List.set_cons_succ, List.set_cons_zero]
    refine wpS_all [4] rfl (by kernel_rfl) (by simp only [pickL, nthL, List.cons_append, List.nil_append]; rfl) ?_
    repeat (go_big_quiet_step (fail))
    refine wpQuiet_nil ?_
    refine wpS_does2 (i := 2) (d := some 37) (rem := [_, _]) (out := [_, _, _]) rfl (by rfl) rfl Try.call14 (gleader_d (oldT W0) _ a (srcOld ha) la _ sh (srcOld hh).row lh) rfl rfl HM16.out [2] rfl (covS_box 1 rfl covS_nil) rfl rfl ?_
    rintro W18 hm17 hg19
    rw [hz1.out]
    have HM20 := Lib.hid hm17
    clear hm17
    simp only [Act.put, List.setIfInBounds_toArray, List.set_cons_succ, List.set_cons_zero]
    refine wpS_does2 (i := 5) (d := some 40) (rem := [_, _]) (out := [_, _, _]) rfl (by rfl) rfl Try.call14 (gleader_d (oldT W0) _ a (srcOld ha) la _ sk (srcOld hk).row lk) rfl rfl HM20.out [0] rfl (covS_box 1 rfl covS_nil) rfl rfl ?_
    rintro W22 hm21 hg23
    rw [hz2.out]
    have HM24 := Lib.hid hm21
    clear hm21
    simp only [Act.put, List.setIfInBounds_toArray, List.set_cons_succ, List.set_cons_zero]
    refine wpS_this [6, 7] rfl (by kernel_rfl) (by simp only [pickL, nthL, List.cons_append, List.nil_append]; rfl) ?_
    repeat (go_big_quiet_step (fail))
    refine wpQuiet_nil ?_
    refine wpS_nil ?_
    refine then_normal ?_
    refine wp_seq ?_
    refine wp_seq ?_
    rcases lead_or a sh with e1 | ⟨n1, e1, hn1⟩ <;> rcases lead_or a sk with e2 | ⟨n2, e2, hn2⟩
    · have f1 : z1 = -1 := hz1.out.symm.trans e1
      subst f1
      clear e1
      have f2 : z2 = -1 := hz2.out.symm.trans e2
      subst f2
      clear e2
      refine wp_region_N [(0, 1), (1, 1), (2, 1), (3, 1), (4, 1), (5, 1)] (by kernel_rfl) ?_
      refine wpS_this [0, 1, 2, 3, 4, 5] rfl (by kernel_rfl) (by simp only [pickL, nthL, List.cons_append, List.nil_append]; rfl) ?_
      repeat (go_big_quiet_step (fail))
      refine wpQuiet_nil ?_
      refine wpS_nil ?_
      refine then_normal ?_
      refine wp_cond_true rfl ?_
      refine wp_seq ?_
      refine wp_region_N [(0, 3), (1, 1)] (by kernel_rfl) ?_
      refine wpS_does0 (i := 0) (d := some 47) (rem := [_, _, _]) (out := [_, _, _]) rfl (by rfl) rfl Try.call9 (lawake_d)  HM24.out [] rfl covS_nil rfl rfl ?_
      rintro W26 hm25 -
      have HM27 := Lib.hid hm25
      clear hm25
      simp only [Act.put, List.setIfInBounds_toArray, List.set_cons_succ, List.set_cons_zero]
      refine wpS_this [1] rfl (by kernel_rfl) (by simp only [pickL, nthL, List.cons_append, List.nil_append]; rfl) ?_
      repeat (go_big_quiet_step (fail))
      refine wpQuiet_nil ?_
      refine wpS_nil ?_
      refine then_normal ?_
      refine wp_ret ?_
      refine then_ret ?_
      refine bodyPost_ret (results_tmp rfl _ _ _) rfl ?_
      exact does_ret (Mem.only (M := [_]) HM27.out [0] rfl) rfl rfl
    · have f1 : z1 = -1 := hz1.out.symm.trans e1
      subst f1
      clear e1
      have f2 : z2 = (n2 : Int) := hz2.out.symm.trans e2
      subst f2
      clear e2
      have gz2 : decide ((n2 : Int) < 0) = false := decide_eq_false (by omega)
      refine wp_region_N [(0, 1), (1, 1), (2, 1), (3, 1), (4, 1), (5, 1)] (by kernel_rfl) ?_
      refine wpS_this [0, 1, 2, 3, 4, 5] rfl (by kernel_rfl) (by simp only [pickL, nthL, List.cons_append, List.nil_append]; rfl) ?_
      repeat (go_big_quiet_step (fail))
      refine wpQuiet_nil ?_
      refine wpS_nil ?_
      refine then_normal ?_
      refine wp_cond_true rfl ?_
      refine wp_seq ?_
      refine wp_region_N [(0, 3), (1, 1)] (by kernel_rfl) ?_
      refine wpS_does0 (i := 0) (d := some 47) (rem := [_, _, _]) (out := [_, _, _]) rfl (by rfl) rfl Try.call9 (lawake_d)  HM24.out [] rfl covS_nil rfl rfl ?_
      rintro W29 hm28 -
      have HM30 := Lib.hid hm28
      clear hm28
      simp only [Act.put, List.setIfInBounds_toArray, List.set_cons_succ, List.set_cons_zero]
      refine wpS_this [1] rfl (by kernel_rfl) (by simp only [pickL, nthL, List.cons_append, List.nil_append]; rfl) ?_
      repeat (go_big_quiet_step (fail))
      refine wpQuiet_nil ?_
      refine wpS_nil ?_
      refine then_normal ?_
      refine wp_ret ?_
      refine then_ret ?_
      refine bodyPost_ret (results_tmp rfl _ _ _) rfl ?_
      exact does_ret (Mem.only (M := [_]) HM30.out [0] rfl) rfl rfl
    · have f1 : z1 = (n1 : Int) := hz1.out.symm.trans e1
      subst f1
      clear e1
      have gz1 : decide ((n1 : Int) < 0) = false := decide_eq_false (by omega)
      have f2 : z2 = -1 := hz2.out.symm.trans e2
      subst f2
      clear e2
      refine wp_region_N [(0, 1), (1, 1), (2, 1), (3, 1), (4, 1), (5, 1)] (by kernel_rfl) ?_
      refine wpS_this [0, 1, 2, 3, 4, 5] rfl (by kernel_rfl) (by simp only [pickL, nthL, List.cons_append, List.nil_append]; rfl) ?_
      repeat (go_big_quiet_step (fail))
      refine wpQuiet_nil ?_
      refine wpS_nil ?_
      refine then_normal ?_
      refine wp_cond_true rfl ?_
      refine wp_seq ?_
      refine wp_region_N [(0, 3), (1, 1)] (by kernel_rfl) ?_
      refine wpS_does0 (i := 0) (d := some 47) (rem := [_, _, _]) (out := [_, _, _]) rfl (by rfl) rfl Try.call9 (lawake_d)  HM24.out [] rfl covS_nil rfl rfl ?_
      rintro W32 hm31 -
      have HM33 := Lib.hid hm31
      clear hm31
      simp only [Act.put, List.setIfInBounds_toArray, List.set_cons_succ, List.set_cons_zero]
      refine wpS_this [1] rfl (by kernel_rfl) (by simp only [pickL, nthL, List.cons_append, List.nil_append]; rfl) ?_
      repeat (go_big_quiet_step (fail))
      refine wpQuiet_nil ?_
      refine wpS_nil ?_
      refine then_normal ?_
      refine wp_ret ?_
      refine then_ret ?_
      refine bodyPost_ret (results_tmp rfl _ _ _) rfl ?_
      exact does_ret (Mem.only (M := [_]) HM33.out [0] rfl) rfl rfl
    · have f1 : z1 = (n1 : Int) := hz1.out.symm.trans e1
      subst f1
      clear e1
      have gz1 : decide ((n1 : Int) < 0) = false := decide_eq_false (by omega)
      have f2 : z2 = (n2 : Int) := hz2.out.symm.trans e2
      subst f2
      clear e2
      have gz2 : decide ((n2 : Int) < 0) = false := decide_eq_false (by omega)
      refine wp_region_N [(0, 1), (1, 1), (2, 1), (3, 1), (4, 1), (5, 1)] (by kernel_rfl) ?_
      refine wpS_this [0, 1, 2, 3, 4, 5] rfl (by kernel_rfl) (by simp only [pickL, nthL, List.cons_append, List.nil_append]; rfl) ?_
      repeat (go_big_quiet_step (fail))
      refine wpQuiet_nil ?_
      refine wpS_nil ?_
      refine then_normal ?_
      refine wp_cond_false rfl ?_
      refine wp_skip ?_
      refine then_normal ?_
      refine wp_seq ?_
      obtain ⟨x, xe, hx'⟩ := ringE_letters (stageR a n1 sh)
      have lx : x.p.2.2.length ≤ 1000 := stage_len hx' la
      have hx := Lib.hid hx'
      clear hx'
      refine wp_region_N [(0, 1), (1, 1), (2, 1), (3, 3), (4, 1), (5, 1), (6, 1), (7, 3), (8, 3), (9, 1)] (by kernel_rfl) ?_
      refine wpS_loadA (i := 0) (d := some 49) (cells := rgC (a) (.slice pa a.p.2.2.length ca)) rfl (by rfl) rfl rfl (HM24.out.sub 2 rfl (fun k u h => by rw [Nat.zero_add]; exact h)) Try.underlying30 rfl (by kernel_rfl) rfl ?_
      simp only [Act.put, List.setIfInBounds_toArray, List.set_cons_succ, List.set_cons_zero]
      refine wpS_this [1, 2] rfl (by kernel_rfl) (by simp only [pickL, nthL, List.cons_append, List.nil_append]; rfl) ?_
      repeat (go_big_quiet_step (fail))
      refine wpQuiet_nil ?_
      refine wpS_doesU3 (i := 3) (d := some 52) (rem := [_, _]) rfl (by rfl) rfl Try.call10 (gstage_d (oldT W0) _ a (srcOld ha) la (n1 : Int) _ sh (srcOld hh).row lh x xe hx.out) rfl rfl rfl HM24.out [0] rfl covS_nil (fun _ => rfl) rfl ?_
      rintro u36 W35 hm34 -
      obtain ⟨px, cx, rfl, hm34q⟩ := Mem.ringE rfl hm34
      clear hm34
      have HM37 := Lib.hid hm34q
      clear hm34q
      simp only [Act.put, List.setIfInBounds_toArray, List.set_cons_succ, List.set_cons_zero]
      refine wpS_this [4, 5, 6] rfl (by kernel_rfl) (by simp only [pickL, nthL, List.cons_append, List.nil_append]; rfl) ?_
      repeat (go_big_quiet_step (fail))
      refine wpQuiet_nil ?_
      refine wpS_alloc (i := 7) (dd := 9) (z := rgV noR (.slice none 0 0)) (cs := (rgC noR (.slice none 0 0)).toArray) rfl (by rfl) rfl (by kernel_rfl) rfl HM37.out covS_nil rfl ?_
      rintro b40 W39 hm38 -
      have HM41 := Lib.hid hm38
      clear hm38
      simp only [Act.put, List.setIfInBounds_toArray, List.set_cons_succ, List.set_cons_zero]
      refine wpS_storeA (i := 8) (L2 := [_, _, _, _]) (cs' := rgC (x) (.slice px x.p.2.2.length cx)) rfl (by rfl) rfl rfl rfl (by kernel_rfl) (rgC_one _ _ _) HM41.out 0 rfl rfl (by kernel_rfl) (by kernel_rfl) covS_nil rfl ?_
      rintro W43 hm42 -
      have HM44 := Lib.hid hm42
      clear hm42
      refine wpS_this [9] rfl (by kernel_rfl) (by simp only [pickL, nthL, List.cons_append, List.nil_append]; rfl) ?_
      repeat (go_big_quiet_step (fail))
      refine wpQuiet_nil ?_
      refine wpS_nil ?_
      refine then_normal ?_
      refine wp_seq ?_
      obtain ⟨y, ye, hy'⟩ := ringE_letters (stageR a n2 sk)
      have ly : y.p.2.2.length ≤ 1000 := stage_len hy' la
      have hy := Lib.hid hy'
      clear hy'
      refine wp_region_N [(0, 1), (1, 1), (2, 1), (3, 3), (4, 1), (5, 1), (6, 1), (7, 3), (8, 3), (9, 1)] (by kernel_rfl) ?_
      refine wpS_loadA (i := 0) (d := some 56) (cells := rgC (a) (.slice pa a.p.2.2.length ca)) rfl (by rfl) rfl rfl (HM44.out.sub 4 rfl (fun k u h => by rw [Nat.zero_add]; exact h)) Try.underlying30 rfl (by kernel_rfl) rfl ?_
      simp only [Act.put, List.setIfInBounds_toArray, List.set_cons_succ, List.set_cons_zero]
      refine wpS_this [1, 2] rfl (by kernel_rfl) (by simp only [pickL, nthL, List.cons_append, List.nil_append]; rfl) ?_
      repeat (go_big_quiet_step (fail))
      refine wpQuiet_nil ?_
      refine wpS_doesU3 (i := 3) (d := some 59) (rem := [_, _, _, _]) rfl (by rfl) rfl Try.call10 (gstage_d (oldT W0) _ a (srcOld ha) la (n2 : Int) _ sk (srcOld hk).row lk y ye hy.out) rfl rfl rfl HM44.out [2] rfl covS_nil (fun _ => rfl) rfl ?_
      rintro u47 W46 hm45 -
      obtain ⟨py, cy, rfl, hm45q⟩ := Mem.ringE rfl hm45
      clear hm45
      have HM48 := Lib.hid hm45q
      clear hm45q
      simp only [Act.put, List.setIfInBounds_toArray, List.set_cons_succ, List.set_cons_zero]
      refine wpS_this [4, 5, 6] rfl (by kernel_rfl) (by simp only [pickL, nthL, List.cons_append, List.nil_append]; rfl) ?_
      repeat (go_big_quiet_step (fail))
      refine wpQuiet_nil ?_
      refine wpS_alloc (i := 7) (dd := 11) (z := rgV noR (.slice none 0 0)) (cs := (rgC noR (.slice none 0 0)).toArray) rfl (by rfl) rfl (by kernel_rfl) rfl HM48.out covS_nil rfl ?_
      rintro b51 W50 hm49 -
      have HM52 := Lib.hid hm49
      clear hm49
      simp only [Act.put, List.setIfInBounds_toArray, List.set_cons_succ, List.set_cons_zero]
      refine wpS_storeA (i := 8) (L2 := [_, _, _, _, _, _]) (cs' := rgC (y) (.slice py y.p.2.2.length cy)) rfl (by rfl) rfl rfl rfl (by kernel_rfl) (rgC_one _ _ _) HM52.out 0 rfl rfl (by kernel_rfl) (by kernel_rfl) covS_nil rfl ?_
      rintro W54 hm53 -
      have HM55 := Lib.hid hm53
      clear hm53
      refine wpS_this [9] rfl (by kernel_rfl) (by simp only [pickL, nthL, List.cons_append, List.nil_append]; rfl) ?_
      repeat (go_big_quiet_step (fail))
      refine wpQuiet_nil ?_
      refine wpS_nil ?_
      refine then_normal ?_
      refine wp_seq ?_
      refine wp_seq ?_
      by_cases hxe : xe = 0 <;> by_cases hye : ye = 0
      · subst hxe hye
        have hxd := stage_ok hx.out
        have hyd := stage_ok hy.out
        obtain ⟨j, hj'⟩ := ring_letter (joinR x y)
        have hj := Lib.hid hj'
        clear hj'
        have lj : j.p.2.2.length ≤ 1000 := by rw [← hj.out]; exact joinR_len lx ly
        have hjm : Hid (mayR j = true) := Lib.hid (by rw [← hj.out]; exact mayR_join hxd.may hyd.may)
        have hbx : Hid (belowR x j = true) := Lib.hid (by rw [← hj.out]; exact below_left x y)
        have hby : Hid (belowR y j = true) := Lib.hid (by rw [← hj.out]; exact below_right x y)
        have hje : Hid (tab16 j.e = tab16 a.e) := Lib.hid (by rw [← hj.out]; exact two_e hxd.e hyd.e)
        clear hxd hyd
        refine wp_region_N [(0, 1), (1, 1), (2, 1), (3, 1), (4, 1), (5, 1)] (by kernel_rfl) ?_
        refine wpS_this [0, 1, 2, 3, 4, 5] rfl (by kernel_rfl) (by simp only [pickL, nthL, List.cons_append, List.nil_append]; rfl) ?_
        repeat (go_big_quiet_step (fail))
        refine wpQuiet_nil ?_
        refine wpS_nil ?_
        refine then_normal ?_
        refine wp_cond_false rfl ?_
        refine wp_skip ?_
        refine then_normal ?_
        refine wp_seq ?_
        refine wp_region_N [(0, 1), (1, 1), (2, 3), (3, 3), (4, 3)] (by kernel_rfl) ?_
        refine wpS_loadA (i := 0) (d := some 69) (cells := rgC (x) (.slice px x.p.2.2.length cx)) rfl (by rfl) rfl rfl (HM55.out.sub 3 rfl (fun k u h => by rw [Nat.zero_add]; exact h)) Try.underlying30 rfl (by kernel_rfl) rfl ?_
        simp only [Act.put, List.setIfInBounds_toArray, List.set_cons_succ, List.set_cons_zero]
        refine wpS_loadA (i := 1) (d := some 70) (cells := rgC (y) (.slice py y.p.2.2.length cy)) rfl (by rfl) rfl rfl (HM55.out.sub 0 rfl (fun k u h => by rw [Nat.zero_add]; exact h)) Try.underlying30 rfl (by kernel_rfl) rfl ?_
        simp only [Act.put, List.setIfInBounds_toArray, List.set_cons_succ, List.set_cons_zero]
        refine wpS_doesU2 (i := 2) (d := some 71) (rem := [_, _, _, _, _]) rfl (by rfl) rfl Try.call23 (DoesU.ofList (gjoin_d (listT [_, _]) _ x (srcL 0 rfl rowT_reads) lx _ y (srcL 1 rfl rowT_reads) ly j hj.out)) rfl rfl HM55.out [4, 1] rfl covS_nil (fun _ => rfl) rfl ?_
        rintro u58 W57 hm56 -
        obtain ⟨pj, cj, rfl, hm56q⟩ := Mem.ring rfl hm56
        clear hm56
        have HM59 := Lib.hid hm56q
        clear hm56q
        simp only [Act.put, List.setIfInBounds_toArray, List.set_cons_succ, List.set_cons_zero]
        refine wpS_alloc (i := 3) (dd := 13) (z := rgV noR (.slice none 0 0)) (cs := (rgC noR (.slice none 0 0)).toArray) rfl (by rfl) rfl (by kernel_rfl) rfl HM59.out covS_nil rfl ?_
        rintro b62 W61 hm60 -
        have HM63 := Lib.hid hm60
        clear hm60
        simp only [Act.put, List.setIfInBounds_toArray, List.set_cons_succ, List.set_cons_zero]
        refine wpS_storeA (i := 4) (L2 := [_, _, _, _, _, _, _, _]) (cs' := rgC (j) (.slice pj j.p.2.2.length cj)) rfl (by rfl) rfl rfl rfl (by kernel_rfl) (rgC_one _ _ _) HM63.out 0 rfl rfl (by kernel_rfl) (by kernel_rfl) covS_nil rfl ?_
        rintro W65 hm64 -
        have HM66 := Lib.hid hm64
        clear hm64
        refine wpS_nil ?_
        refine then_normal ?_
        refine wp_seq ?_
        refine wp_seq ?_
        refine wp_region_N [(0, 1), (1, 3), (2, 1), (3, 1), (4, 1), (5, 1), (6, 3), (7, 1), (8, 1), (9, 1), (10, 1), (11, 1), (12, 3), (13, 1), (14, 1), (15, 1), (16, 1), (17, 1), (18, 1), (19, 1), (20, 1), (21, 1)] (by kernel_rfl) ?_
        refine wpS_loadA (i := 0) (d := some 72) (cells := rgC (j) (.slice pj j.p.2.2.length cj)) rfl (by rfl) rfl rfl (HM66.out.sub 0 rfl (fun k u h => by rw [Nat.zero_add]; exact h)) Try.underlying30 rfl (by kernel_rfl) rfl ?_
        simp only [Act.put, List.setIfInBounds_toArray, List.set_cons_succ, List.set_cons_zero]
        refine wpS_does1 (i := 1) (d := some 73) (rem := [_, _, _, _, _, _, _, _]) (out := [_, _, _, _, _, _, _, _, _]) rfl (by rfl) rfl Try.call12 (gmay_d (rowT elemI _ _) _ j rowT_reads lj) rfl HM66.out [1] rfl covS_nil rfl rfl ?_
        rintro W68 hm67 -
        rw [hjm.out]
        have HM69 := Lib.hid hm67
        clear hm67
        simp only [Act.put, List.setIfInBounds_toArray, List.set_cons_succ, List.set_cons_zero]
        refine wpS_this [2, 3] rfl (by kernel_rfl) (by simp only [pickL, nthL, List.cons_append, List.nil_append]; rfl) ?_
        repeat (go_big_quiet_step (fail))
        refine wpQuiet_nil ?_
        refine wpS_loadA (i := 4) (d := some 76) (cells := rgC (x) (.slice px x.p.2.2.length cx)) rfl (by rfl) rfl rfl (HM69.out.sub 6 rfl (fun k u h => by rw [Nat.zero_add]; exact h)) Try.underlying30 rfl (by kernel_rfl) rfl ?_
        simp only [Act.put, List.setIfInBounds_toArray, List.set_cons_succ, List.set_cons_zero]
        refine wpS_loadA (i := 5) (d := some 77) (cells := rgC (j) (.slice pj j.p.2.2.length cj)) rfl (by rfl) rfl rfl (HM69.out.sub 1 rfl (fun k u h => by rw [Nat.zero_add]; exact h)) Try.underlying30 rfl (by kernel_rfl) rfl ?_
        simp only [Act.put, List.setIfInBounds_toArray, List.set_cons_succ, List.set_cons_zero]
        refine wpS_does2 (i := 6) (d := some 78) (rem := [_, _, _, _, _, _, _]) (out := [_, _, _, _, _, _, _, _, _]) rfl (by rfl) rfl Try.call13 (Does.ofList (gbelow_d (listT [_, _]) _ x (srcL 0 rfl rowT_reads) lx _ j (srcL 1 rfl rowT_reads) lj)) rfl rfl HM69.out [2, 0] rfl covS_nil rfl rfl ?_
        rintro W71 hm70 -
        rw [hbx.out]
        have HM72 := Lib.hid hm70
        clear hm70
        simp only [Act.put, List.setIfInBounds_toArray, List.set_cons_succ, List.set_cons_zero]
        refine wpS_this [7, 8, 9] rfl (by kernel_rfl) (by simp only [pickL, nthL, List.cons_append, List.nil_append]; rfl) ?_
        repeat (go_big_quiet_step (fail))
        refine wpQuiet_nil ?_
        refine wpS_loadA (i := 10) (d := some 82) (cells := rgC (y) (.slice py y.p.2.2.length cy)) rfl (by rfl) rfl rfl (HM72.out.sub 4 rfl (fun k u h => by rw [Nat.zero_add]; exact h)) Try.underlying30 rfl (by kernel_rfl) rfl ?_
        simp only [Act.put, List.setIfInBounds_toArray, List.set_cons_succ, List.set_cons_zero]
        refine wpS_loadA (i := 11) (d := some 83) (cells := rgC (j) (.slice pj j.p.2.2.length cj)) rfl (by rfl) rfl rfl (HM72.out.sub 2 rfl (fun k u h => by rw [Nat.zero_add]; exact h)) Try.underlying30 rfl (by kernel_rfl) rfl ?_
        simp only [Act.put, List.setIfInBounds_toArray, List.set_cons_succ, List.set_cons_zero]
        refine wpS_does2 (i := 12) (d := some 84) (rem := [_, _, _, _, _, _, _]) (out := [_, _, _, _, _, _, _, _, _]) rfl (by rfl) rfl Try.call13 (Does.ofList (gbelow_d (listT [_, _]) _ y (srcL 0 rfl rowT_reads) ly _ j (srcL 1 rfl rowT_reads) lj)) rfl rfl HM72.out [3, 1] rfl covS_nil rfl rfl ?_
        rintro W74 hm73 -
        rw [hby.out]
        have HM75 := Lib.hid hm73
        clear hm73
        simp only [Act.put, List.setIfInBounds_toArray, List.set_cons_succ, List.set_cons_zero]
        refine wpS_this [13, 14, 15, 16] rfl (by kernel_rfl) (by simp only [pickL, nthL, List.cons_append, List.nil_append]; rfl) ?_
        repeat (go_big_quiet_step (fail))
        refine wpQuiet_nil ?_
        refine wpS_loadA (i := 17) (d := some 89) (cells := enC (j).e) rfl (by rfl) rfl rfl (HM75.out.sub 3 rfl (rgC_en)) Try.underlying28 rfl (by kernel_rfl) rfl ?_
        simp only [Act.put, List.setIfInBounds_toArray, List.set_cons_succ, List.set_cons_zero]
        refine wpS_this [18] rfl (by kernel_rfl) (by simp only [pickL, nthL, List.cons_append, List.nil_append]; rfl) ?_
        repeat (go_big_quiet_step (fail))
        refine wpQuiet_nil ?_
        refine wpS_loadA (i := 19) (d := some 91) (cells := enC (a).e) rfl (by rfl) rfl rfl (HM75.out.sub 8 rfl (rgC_en)) Try.underlying28 rfl (by kernel_rfl) rfl ?_
        simp only [Act.put, List.setIfInBounds_toArray, List.set_cons_succ, List.set_cons_zero]
        refine wpS_read (i := 20) (d := some 92) rfl (by rfl) (run_neqEn (b := false) (by rw [hje.out]; simp) rfl rfl rfl) rfl ?_
        simp only [Act.put, List.setIfInBounds_toArray, List.set_cons_succ, List.set_cons_zero]
        refine wpS_this [21] rfl (by kernel_rfl) (by simp only [pickL, nthL, List.cons_append, List.nil_append]; rfl) ?_
        repeat (go_big_quiet_step (fail))
        refine wpQuiet_nil ?_
        refine wpS_nil ?_
        refine then_normal ?_
        refine wp_cond_false rfl ?_
        refine wp_skip ?_
        refine then_normal ?_
        refine wp_seq ?_
        refine wp_region_N [(0, 3), (1, 1), (2, 3), (3, 1), (4, 3), (5, 1)] (by kernel_rfl) ?_
        refine wpS_buildN elemI (i := 0) (dd := 94) (n := 0) (xs := []) (cs := #[]) rfl (by rfl) (fun _ => by kernel_rfl) rfl rfl HM75.out covS_nil rfl ?_
        rintro b78 W79 hm80 -
        have HM81 := Lib.hid hm80
        clear hm80
        simp only [Act.put, List.setIfInBounds_toArray, List.set_cons_succ, List.set_cons_zero]
        refine wpS_this [1] rfl (by kernel_rfl) (by simp only [pickL, nthL, List.cons_append, List.nil_append]; rfl) ?_
        repeat (go_big_quiet_step (fail))
        refine wpQuiet_nil ?_
        refine wpS_append (E := elemI) (i := 2) (d := some 96) (L2 := [_, _, _, _, _, _, _, _, _]) rfl (by rfl) rfl HM81.out 0 rfl rfl ((HM81.out.src 6 rfl (srcOld hh))) rfl (by simp only [List.length_nil]; show _ * 8 ≤ _; omega) rfl covS_nil rfl ?_
        rintro u84 W85 hm86 -
        have HM87 := Lib.hid hm86
        clear hm86
        simp only [Act.put, List.setIfInBounds_toArray, List.set_cons_succ, List.set_cons_zero]
        refine wpS_this [3] rfl (by kernel_rfl) (by simp only [pickL, nthL, List.cons_append, List.nil_append]; rfl) ?_
        repeat (go_big_quiet_step (fail))
        refine wpQuiet_nil ?_
        refine wpS_append (E := elemI) (i := 4) (d := some 98) (L2 := [_, _, _, _, _, _, _, _, _]) rfl (by rfl) rfl HM87.out 0 rfl rfl ((HM87.out.src 6 rfl (srcOld hk))) rfl (by simp only [List.length_append, List.length_nil]; show _ * 8 ≤ _; omega) rfl covS_nil rfl ?_
        rintro u90 W91 hm92 -
        obtain ⟨u90p, u90c, rfl⟩ := row_form (Mem.src hm92 0 rfl rowT_reads)
        have HM93 := Lib.hid hm92
        clear hm92
        simp only [Act.put, List.setIfInBounds_toArray, List.set_cons_succ, List.set_cons_zero]
        refine wpS_this [5] rfl (by kernel_rfl) (by simp only [pickL, nthL, List.cons_append, List.nil_append]; rfl) ?_
        repeat (go_big_quiet_step (fail))
        refine wpQuiet_nil ?_
        refine wpS_nil ?_
        refine then_normal ?_
        refine wp_seq ?_
        obtain ⟨l, hl'⟩ : ∃ l : List Int, [] ++ sh ++ sk = l := ⟨_, rfl⟩
        have HM93w := HM93.out
        rw [hl'] at HM93w ⊢
        replace HM93 := Lib.hid HM93w
        clear HM93w
        have ll : l.length ≤ 1000 := by rw [← hl']; simp only [List.length_append, List.length_nil]; omega
        clear hl'
        obtain ⟨z3, hz3'⟩ := int_letter (leaderR j l)
        have hz3 := Lib.hid hz3'
        clear hz3'
        refine wp_region_N [(0, 1), (1, 1), (2, 3), (3, 1)] (by kernel_rfl) ?_
        refine wpS_loadA (i := 0) (d := some 99) (cells := rgC (j) (.slice pj j.p.2.2.length cj)) rfl (by rfl) rfl rfl (HM93.out.sub 4 rfl (fun k u h => by rw [Nat.zero_add]; exact h)) Try.underlying30 rfl (by kernel_rfl) rfl ?_
        simp only [Act.put, List.setIfInBounds_toArray, List.set_cons_succ, List.set_cons_zero]
        refine wpS_this [1] rfl (by kernel_rfl) (by simp only [pickL, nthL, List.cons_append, List.nil_append]; rfl) ?_
        repeat (go_big_quiet_step (fail))
        refine wpQuiet_nil ?_
        refine wpS_does2 (i := 2) (d := some 101) (rem := [_, _, _, _, _, _, _, _]) (out := [_, _, _, _, _, _, _, _, _, _]) rfl (by rfl) rfl Try.call14 (Does.ofList (gleader_d (listT [_, _]) _ j (srcL 0 rfl rowT_reads) lj _ l (rowL 1 rfl rowOwn) ll)) rfl rfl HM93.out [2, 0] rfl covS_nil rfl rfl ?_
        rintro W95 hm94 -
        rw [hz3.out]
        have HM96 := Lib.hid hm94
        clear hm94
        simp only [Act.put, List.setIfInBounds_toArray, List.set_cons_succ, List.set_cons_zero]
        refine wpS_this [3] rfl (by kernel_rfl) (by simp only [pickL, nthL, List.cons_append, List.nil_append]; rfl) ?_
        repeat (go_big_quiet_step (fail))
        refine wpQuiet_nil ?_
        refine wpS_nil ?_
        refine then_normal ?_
        refine wp_seq ?_
        refine wp_seq ?_
        rcases lead_or j l with e3 | ⟨n3, e3, hn3⟩
        · have f3 : z3 = -1 := hz3.out.symm.trans e3
          subst f3
          clear e3
          refine wp_region_N [(0, 1), (1, 1)] (by kernel_rfl) ?_
          refine wpS_this [0, 1] rfl (by kernel_rfl) (by simp only [pickL, nthL, List.cons_append, List.nil_append]; rfl) ?_
          repeat (go_big_quiet_step (fail))
          refine wpQuiet_nil ?_
          refine wpS_nil ?_
          refine then_normal ?_
          refine wp_cond_true rfl ?_
          refine wp_seq ?_
          refine wp_region_N [(0, 3), (1, 1)] (by kernel_rfl) ?_
          refine wpS_does0 (i := 0) (d := some 104) (rem := [_, _, _, _, _, _, _, _, _, _]) (out := [_, _, _, _, _, _, _, _, _, _]) rfl (by rfl) rfl Try.call9 (lawake_d)  HM96.out [] rfl covS_nil rfl rfl ?_
          rintro W98 hm97 -
          have HM99 := Lib.hid hm97
          clear hm97
          simp only [Act.put, List.setIfInBounds_toArray, List.set_cons_succ, List.set_cons_zero]
          refine wpS_this [1] rfl (by kernel_rfl) (by simp only [pickL, nthL, List.cons_append, List.nil_append]; rfl) ?_
          repeat (go_big_quiet_step (fail))
          refine wpQuiet_nil ?_
          refine wpS_nil ?_
          refine then_normal ?_
          refine wp_ret ?_
          refine then_ret ?_
          refine bodyPost_ret (results_tmp rfl _ _ _) rfl ?_
          exact does_ret (Mem.only (M := [_]) HM99.out [6] rfl) rfl rfl
        · have f3 : z3 = (n3 : Int) := hz3.out.symm.trans e3
          subst f3
          clear e3
          have gz3 : decide ((n3 : Int) < 0) = false := decide_eq_false (by omega)
          refine wp_region_N [(0, 1), (1, 1)] (by kernel_rfl) ?_
          refine wpS_this [0, 1] rfl (by kernel_rfl) (by simp only [pickL, nthL, List.cons_append, List.nil_append]; rfl) ?_
          repeat (go_big_quiet_step (fail))
          refine wpQuiet_nil ?_
          refine wpS_nil ?_
          refine then_normal ?_
          refine wp_cond_false rfl ?_
          refine wp_skip ?_
          refine then_normal ?_
          refine wp_seq ?_
          obtain ⟨z, ze, hz'⟩ := ringE_letters (stageR j n3 l)
          have lz : z.p.2.2.length ≤ 1000 := stage_len hz' lj
          have hz := Lib.hid hz'
          clear hz'
          refine wp_region_N [(0, 1), (1, 1), (2, 1), (3, 3), (4, 1), (5, 1), (6, 1), (7, 3), (8, 3), (9, 1)] (by kernel_rfl) ?_
          refine wpS_loadA (i := 0) (d := some 106) (cells := rgC (j) (.slice pj j.p.2.2.length cj)) rfl (by rfl) rfl rfl (HM96.out.sub 4 rfl (fun k u h => by rw [Nat.zero_add]; exact h)) Try.underlying30 rfl (by kernel_rfl) rfl ?_
          simp only [Act.put, List.setIfInBounds_toArray, List.set_cons_succ, List.set_cons_zero]
          refine wpS_this [1, 2] rfl (by kernel_rfl) (by simp only [pickL, nthL, List.cons_append, List.nil_append]; rfl) ?_
          repeat (go_big_quiet_step (fail))
          refine wpQuiet_nil ?_
          refine wpS_doesU3 (i := 3) (d := some 109) (rem := [_, _, _, _, _, _, _, _]) rfl (by rfl) rfl Try.call10 (DoesU.ofList (gstage_d (listT [_, _]) _ j (srcL 0 rfl rowT_reads) lj (n3 : Int) _ l (rowL 1 rfl rowOwn) ll z ze hz.out)) rfl rfl rfl HM96.out [0, 0] rfl covS_nil (fun _ => rfl) rfl ?_
          rintro u102 W101 hm100 -
          obtain ⟨pz, cz, rfl, hm100q⟩ := Mem.ringE rfl hm100
          clear hm100
          have HM103 := Lib.hid hm100q
          clear hm100q
          simp only [Act.put, List.setIfInBounds_toArray, List.set_cons_succ, List.set_cons_zero]
          refine wpS_this [4, 5, 6] rfl (by kernel_rfl) (by simp only [pickL, nthL, List.cons_append, List.nil_append]; rfl) ?_
          repeat (go_big_quiet_step (fail))
          refine wpQuiet_nil ?_
          refine wpS_alloc (i := 7) (dd := 16) (z := rgV noR (.slice none 0 0)) (cs := (rgC noR (.slice none 0 0)).toArray) rfl (by rfl) rfl (by kernel_rfl) rfl HM103.out covS_nil rfl ?_
          rintro b106 W105 hm104 -
          have HM107 := Lib.hid hm104
          clear hm104
          simp only [Act.put, List.setIfInBounds_toArray, List.set_cons_succ, List.set_cons_zero]
          refine wpS_storeA (i := 8) (L2 := [_, _, _, _, _, _, _, _, _, _, _]) (cs' := rgC (z) (.slice pz z.p.2.2.length cz)) rfl (by rfl) rfl rfl rfl (by kernel_rfl) (rgC_one _ _ _) HM107.out 0 rfl rfl (by kernel_rfl) (by kernel_rfl) covS_nil rfl ?_
          rintro W109 hm108 -
          have HM110 := Lib.hid hm108
          clear hm108
          refine wpS_this [9] rfl (by kernel_rfl) (by simp only [pickL, nthL, List.cons_append, List.nil_append]; rfl) ?_
          repeat (go_big_quiet_step (fail))
          refine wpQuiet_nil ?_
          refine wpS_nil ?_
          refine then_normal ?_
          refine wp_seq ?_
          refine wp_seq ?_
          rcases two_ways hjm.out hn3 hz3.out hz.out with ⟨h0, hzd⟩ | ⟨h0, h1⟩ | ⟨h0, h1⟩
          · subst h0
            have hbz : Hid (belowR j z = true) := Lib.hid hzd.below
            obtain ⟨z4, hz4'⟩ := int_letter (leaderR z l)
            have hag : Hid (stageR z z4 l = (noR, if nodeE z4 = true then 9 else 1)) := Lib.hid (by rw [hzd.again z4 l, if_pos hz4'])
            have hz4 := Lib.hid hz4'
            clear hz4'
            clear hzd
            refine wp_region_N [(0, 1), (1, 1)] (by kernel_rfl) ?_
            refine wpS_this [0, 1] rfl (by kernel_rfl) (by simp only [pickL, nthL, List.cons_append, List.nil_append]; rfl) ?_
            repeat (go_big_quiet_step (fail))
            refine wpQuiet_nil ?_
            refine wpS_nil ?_
            refine then_normal ?_
            refine wp_cond_false rfl ?_
            refine wp_skip ?_
            refine then_normal ?_
            refine wp_seq ?_
            by_cases hnd : nodeE z4 = true
            · have hag2 : Hid (stageR z z4 l = (noR, 9)) := Lib.hid (by rw [hag.out, if_pos hnd])
              clear hnd
              refine wp_cut_F [18, 19, 123, 124, 125, 126, 127, 128, 129, 130, 131] (fun vs W' => vs 19 = .int .i64 9 ∧ Mem [boxT b62 (.cells (rgC j (.slice pj j.p.2.2.length cj)).toArray 30 (0, 0)), boxT b106 (.cells (rgC z (.slice pz z.p.2.2.length cz)).toArray 30 (0, 0)), rowT elemI (.slice pj j.p.2.2.length cj) j.p.2.2, rowT elemI (.slice pz z.p.2.2.length cz) z.p.2.2, oldT W0] H w W') ?_ ?_
              · refine wp_region_taken [] (fun k => k ∈ ([b106] : List Nat)) (by kernel_rfl) rfl rfl ?_
                have hm111 := HM110.out.drew
                have HM112 := Lib.hid hm111
                clear hm111
                refine wpT_takeS (i := 0) (by kernel_rfl) (by kernel_rfl) ?_
                refine wpS_loadA2 (i := 0) (d := some 124) (cells := rgC (z) (.slice pz z.p.2.2.length cz)) rfl (by rfl) rfl rfl (by simp) (HM112.out.sub 0 rfl (fun k u h => by rw [Nat.zero_add]; exact h)) Try.underlying30 rfl (by kernel_rfl) rfl ?_
                simp only [Act.put, List.setIfInBounds_toArray, List.set_cons_succ, List.set_cons_zero]
                refine wpS_nil ?_
                refine wpT_takeS (i := 1) (by kernel_rfl) (by kernel_rfl) ?_
                refine wpS_loadA2 (i := 1) (d := some 125) (cells := rgC (z) (.slice pz z.p.2.2.length cz)) rfl (by rfl) rfl rfl (by simp) (HM112.out.sub 0 rfl (fun k u h => by rw [Nat.zero_add]; exact h)) Try.underlying30 rfl (by kernel_rfl) rfl ?_
                simp only [Act.put, List.setIfInBounds_toArray, List.set_cons_succ, List.set_cons_zero]
                refine wpS_nil ?_
                refine wpT_takeS (i := 2) (by kernel_rfl) (by kernel_rfl) ?_
                refine wpS_stay [2] rfl (by kernel_rfl) (by simp only [pickL, nthL, List.cons_append, List.nil_append]; rfl) ?_
                repeat (go_big_quiet_step (fail))
                refine wpQuiet_nil ?_
                refine wpS_nil ?_
                refine wpT_takeS (i := 4) (by kernel_rfl) (by kernel_rfl) ?_
                refine wpS_stay [4] rfl (by kernel_rfl) (by simp only [pickL, nthL, List.cons_append, List.nil_append]; rfl) ?_
                repeat (go_big_quiet_step (fail))
                refine wpQuiet_nil ?_
                refine wpS_nil ?_
                refine wpT_ready 3 [9] (by kernel_rfl) (allT_cons ?_ (allT_cons ?_ allT_nil))
                · refine opT_S (by kernel_rfl) ?_
                  refine wpS_does2 (i := 3) (d := some 127) (rem := [_, _, _, _, _, _, _, _, _, _]) (out := [_, _, _, _, _, _, _, _, _, _, _, _]) rfl (by rfl) rfl Try.call14 (Does.ofList (gleader_d (listT [_, _]) _ z (srcL 0 rfl rowT_reads) lz _ l (rowL 1 rfl rowOwn) ll)) rfl rfl HM112.out [1, 2] rfl (covS_box 0 rfl covS_nil) rfl rfl ?_
                  rintro W114 hm113 hg115
                  rw [hz4.out]
                  have HM116 := Lib.hid hm113
                  clear hm113
                  simp only [Act.put, List.setIfInBounds_toArray, List.set_cons_succ, List.set_cons_zero]
                  refine wpS_nil ?_
                  refine wpT_ready 5 [9] (by kernel_rfl) (allT_cons ?_ (allT_cons ?_ allT_nil))
                  · refine opT_S (by kernel_rfl) ?_
                    refine wpS_doesU3 (i := 5) (d := some 129) (rem := [_, _, _, _, _, _, _, _, _, _]) rfl (by rfl) rfl Try.call10 (DoesU.ofList (gstage_d (listT [_, _]) _ z (srcL 0 rfl rowT_reads) lz z4 _ l (rowL 1 rfl rowOwn) ll noR 9 hag2.out)) rfl rfl rfl HM116.out [0, 0] rfl (covS_box 0 rfl covS_nil) (fun _ => rfl) rfl ?_
                    rintro u120 W118 hm117 hg119
                    obtain ⟨pw, cw, rfl, hm117q⟩ := Mem.ringE (n := 0) rfl hm117
                    clear hm117
                    have HM121 := Lib.hid hm117q
                    clear hm117q
                    simp only [Act.put, List.setIfInBounds_toArray, List.set_cons_succ, List.set_cons_zero]
                    refine wpS_nil ?_
                    refine wpT_takeS (i := 6) (by kernel_rfl) (by kernel_rfl) ?_
                    refine wpS_stay [6] rfl (by kernel_rfl) (by simp only [pickL, nthL, List.cons_append, List.nil_append]; rfl) ?_
                    repeat (go_big_quiet_step (fail))
                    refine wpQuiet_nil ?_
                    refine wpS_nil ?_
                    refine wpT_takeS (i := 7) (by kernel_rfl) (by kernel_rfl) ?_
                    refine wpS_stay [7] rfl (by kernel_rfl) (by simp only [pickL, nthL, List.cons_append, List.nil_append]; rfl) ?_
                    repeat (go_big_quiet_step (fail))
                    refine wpQuiet_nil ?_
                    refine wpS_nil ?_
                    refine wpT_takeS (i := 8) (by kernel_rfl) (by kernel_rfl) ?_
                    refine wpS_stay [8] rfl (by kernel_rfl) (by simp only [pickL, nthL, List.cons_append, List.nil_append]; rfl) ?_
                    repeat (go_big_quiet_step (fail))
                    refine wpQuiet_nil ?_
                    refine wpS_nil ?_
                    refine wpT_ready 9 [] (by kernel_rfl) (allT_cons ?_ allT_nil)
                    refine opT_S (by kernel_rfl) ?_
                    refine wpS_alloc (i := 9) (dd := 18) (z := rgV noR (.slice none 0 0)) (cs := (rgC noR (.slice none 0 0)).toArray) rfl (by rfl) rfl (by kernel_rfl) rfl HM121.out (covS_box 3 rfl covS_nil) rfl ?_
                    rintro b125 W124 hm123 hg122
                    have HM126 := Lib.hid hm123
                    clear hm123
                    simp only [Act.put, List.setIfInBounds_toArray, List.set_cons_succ, List.set_cons_zero]
                    refine wpS_nil ?_
                    refine wpT_ready 10 [] (by kernel_rfl) (allT_cons ?_ allT_nil)
                    refine opT_S (by kernel_rfl) ?_
                    refine wpS_storeA (i := 10) (L2 := [_, _, _, _, _, _, _, _, _, _, _, _, _]) (cs' := rgC noR (.slice pw 0 cw)) rfl (by rfl) rfl rfl rfl (by kernel_rfl) (rgC_one _ _ _) HM126.out 0 rfl rfl (by kernel_rfl) (by kernel_rfl) (covS_box 3 rfl covS_nil) rfl ?_
                    rintro W128 hm127 -
                    have HM129 := Lib.hid hm127
                    clear hm127
                    refine wpS_nil ?_
                    refine wpT_takeS (i := 11) (by kernel_rfl) (by kernel_rfl) ?_
                    refine wpS_stay [11] rfl (by kernel_rfl) (by simp only [pickL, nthL, List.cons_append, List.nil_append]; rfl) ?_
                    repeat (go_big_quiet_step (fail))
                    refine wpQuiet_nil ?_
                    refine wpS_nil ?_
                    refine wpT_end (by kernel_rfl) ?_
                    refine then_normal ?_
                    refine ⟨by kernel_rfl, ?_⟩
                    exact ⟨rfl, (Mem.only (M := [_, _, _, _, _]) HM129.out [8, 4, 4, 2, 6] rfl)⟩
                  · refine opT_S (by kernel_rfl) ?_
                    refine wpS_alloc (i := 9) (dd := 18) (z := rgV noR (.slice none 0 0)) (cs := (rgC noR (.slice none 0 0)).toArray) rfl (by rfl) rfl (by kernel_rfl) rfl HM116.out (covS_box 2 rfl covS_nil) rfl ?_
                    rintro b133 W132 hm131 hg130
                    have HM134 := Lib.hid hm131
                    clear hm131
                    simp only [Act.put, List.setIfInBounds_toArray, List.set_cons_succ, List.set_cons_zero]
                    refine wpS_nil ?_
                    refine wpT_ready 5 [] (by kernel_rfl) (allT_cons ?_ allT_nil)
                    refine opT_S (by kernel_rfl) ?_
                    refine wpS_doesU3 (i := 5) (d := some 129) (rem := [_, _, _, _, _, _, _, _, _, _, _]) rfl (by rfl) rfl Try.call10 (DoesU.ofList (gstage_d (listT [_, _]) _ z (srcL 0 rfl rowT_reads) lz z4 _ l (rowL 1 rfl rowOwn) ll noR 9 hag2.out)) rfl rfl rfl HM134.out [1, 1] rfl (covS_box 1 rfl covS_nil) (fun _ => rfl) rfl ?_
                    rintro u138 W136 hm135 hg137
                    obtain ⟨pw, cw, rfl, hm135q⟩ := Mem.ringE (n := 0) rfl hm135
                    clear hm135
                    have HM139 := Lib.hid hm135q
                    clear hm135q
                    simp only [Act.put, List.setIfInBounds_toArray, List.set_cons_succ, List.set_cons_zero]
                    refine wpS_nil ?_
                    refine wpT_takeS (i := 6) (by kernel_rfl) (by kernel_rfl) ?_
                    refine wpS_stay [6] rfl (by kernel_rfl) (by simp only [pickL, nthL, List.cons_append, List.nil_append]; rfl) ?_
                    repeat (go_big_quiet_step (fail))
                    refine wpQuiet_nil ?_
                    refine wpS_nil ?_
                    refine wpT_takeS (i := 7) (by kernel_rfl) (by kernel_rfl) ?_
                    refine wpS_stay [7] rfl (by kernel_rfl) (by simp only [pickL, nthL, List.cons_append, List.nil_append]; rfl) ?_
                    repeat (go_big_quiet_step (fail))
                    refine wpQuiet_nil ?_
                    refine wpS_nil ?_
                    refine wpT_takeS (i := 8) (by kernel_rfl) (by kernel_rfl) ?_
                    refine wpS_stay [8] rfl (by kernel_rfl) (by simp only [pickL, nthL, List.cons_append, List.nil_append]; rfl) ?_
                    repeat (go_big_quiet_step (fail))
                    refine wpQuiet_nil ?_
                    refine wpS_nil ?_
                    refine wpT_ready 10 [] (by kernel_rfl) (allT_cons ?_ allT_nil)
                    refine opT_S (by kernel_rfl) ?_
                    refine wpS_storeA (i := 10) (L2 := [_, _, _, _, _, _, _, _, _, _, _, _, _]) (cs' := rgC noR (.slice pw 0 cw)) rfl (by rfl) rfl rfl rfl (by kernel_rfl) (rgC_one _ _ _) HM139.out 3 rfl rfl (by kernel_rfl) (by kernel_rfl) (covS_box 3 rfl covS_nil) rfl ?_
                    rintro W141 hm140 -
                    have HM142 := Lib.hid hm140
                    clear hm140
                    refine wpS_nil ?_
                    refine wpT_takeS (i := 11) (by kernel_rfl) (by kernel_rfl) ?_
                    refine wpS_stay [11] rfl (by kernel_rfl) (by simp only [pickL, nthL, List.cons_append, List.nil_append]; rfl) ?_
                    repeat (go_big_quiet_step (fail))
                    refine wpQuiet_nil ?_
                    refine wpS_nil ?_
                    refine wpT_end (by kernel_rfl) ?_
                    refine then_normal ?_
                    refine ⟨by kernel_rfl, ?_⟩
                    exact ⟨rfl, (Mem.only (M := [_, _, _, _, _]) HM142.out [8, 4, 4, 2, 6] rfl)⟩
                · refine opT_S (by kernel_rfl) ?_
                  refine wpS_alloc (i := 9) (dd := 18) (z := rgV noR (.slice none 0 0)) (cs := (rgC noR (.slice none 0 0)).toArray) rfl (by rfl) rfl (by kernel_rfl) rfl HM112.out (covS_box 0 rfl covS_nil) rfl ?_
                  rintro b146 W145 hm144 hg143
                  have HM147 := Lib.hid hm144
                  clear hm144
                  simp only [Act.put, List.setIfInBounds_toArray, List.set_cons_succ, List.set_cons_zero]
                  refine wpS_nil ?_
                  refine wpT_ready 3 [] (by kernel_rfl) (allT_cons ?_ allT_nil)
                  refine opT_S (by kernel_rfl) ?_
                  refine wpS_does2 (i := 3) (d := some 127) (rem := [_, _, _, _, _, _, _, _, _, _, _]) (out := [_, _, _, _, _, _, _, _, _, _, _, _, _]) rfl (by rfl) rfl Try.call14 (Does.ofList (gleader_d (listT [_, _]) _ z (srcL 0 rfl rowT_reads) lz _ l (rowL 1 rfl rowOwn) ll)) rfl rfl HM147.out [2, 3] rfl (covS_box 1 rfl covS_nil) rfl rfl ?_
                  rintro W149 hm148 hg150
                  rw [hz4.out]
                  have HM151 := Lib.hid hm148
                  clear hm148
                  simp only [Act.put, List.setIfInBounds_toArray, List.set_cons_succ, List.set_cons_zero]
                  refine wpS_nil ?_
                  refine wpT_ready 5 [] (by kernel_rfl) (allT_cons ?_ allT_nil)
                  refine opT_S (by kernel_rfl) ?_
                  refine wpS_doesU3 (i := 5) (d := some 129) (rem := [_, _, _, _, _, _, _, _, _, _, _]) rfl (by rfl) rfl Try.call10 (DoesU.ofList (gstage_d (listT [_, _]) _ z (srcL 0 rfl rowT_reads) lz z4 _ l (rowL 1 rfl rowOwn) ll noR 9 hag2.out)) rfl rfl rfl HM151.out [0, 0] rfl (covS_box 1 rfl covS_nil) (fun _ => rfl) rfl ?_
                  rintro u155 W153 hm152 hg154
                  obtain ⟨pw, cw, rfl, hm152q⟩ := Mem.ringE (n := 0) rfl hm152
                  clear hm152
                  have HM156 := Lib.hid hm152q
                  clear hm152q
                  simp only [Act.put, List.setIfInBounds_toArray, List.set_cons_succ, List.set_cons_zero]
                  refine wpS_nil ?_
                  refine wpT_takeS (i := 6) (by kernel_rfl) (by kernel_rfl) ?_
                  refine wpS_stay [6] rfl (by kernel_rfl) (by simp only [pickL, nthL, List.cons_append, List.nil_append]; rfl) ?_
                  repeat (go_big_quiet_step (fail))
                  refine wpQuiet_nil ?_
                  refine wpS_nil ?_
                  refine wpT_takeS (i := 7) (by kernel_rfl) (by kernel_rfl) ?_
                  refine wpS_stay [7] rfl (by kernel_rfl) (by simp only [pickL, nthL, List.cons_append, List.nil_append]; rfl) ?_
                  repeat (go_big_quiet_step (fail))
                  refine wpQuiet_nil ?_
                  refine wpS_nil ?_
                  refine wpT_takeS (i := 8) (by kernel_rfl) (by kernel_rfl) ?_
                  refine wpS_stay [8] rfl (by kernel_rfl) (by simp only [pickL, nthL, List.cons_append, List.nil_append]; rfl) ?_
                  repeat (go_big_quiet_step (fail))
                  refine wpQuiet_nil ?_
                  refine wpS_nil ?_
                  refine wpT_ready 10 [] (by kernel_rfl) (allT_cons ?_ allT_nil)
                  refine opT_S (by kernel_rfl) ?_
                  refine wpS_storeA (i := 10) (L2 := [_, _, _, _, _, _, _, _, _, _, _, _, _]) (cs' := rgC noR (.slice pw 0 cw)) rfl (by rfl) rfl rfl rfl (by kernel_rfl) (rgC_one _ _ _) HM156.out 3 rfl rfl (by kernel_rfl) (by kernel_rfl) (covS_box 3 rfl covS_nil) rfl ?_
                  rintro W158 hm157 -
                  have HM159 := Lib.hid hm157
                  clear hm157
                  refine wpS_nil ?_
                  refine wpT_takeS (i := 11) (by kernel_rfl) (by kernel_rfl) ?_
                  refine wpS_stay [11] rfl (by kernel_rfl) (by simp only [pickL, nthL, List.cons_append, List.nil_append]; rfl) ?_
                  repeat (go_big_quiet_step (fail))
                  refine wpQuiet_nil ?_
                  refine wpS_nil ?_
                  refine wpT_end (by kernel_rfl) ?_
                  refine then_normal ?_
                  refine ⟨by kernel_rfl, ?_⟩
                  exact ⟨rfl, (Mem.only (M := [_, _, _, _, _]) HM159.out [8, 4, 4, 2, 6] rfl)⟩
              rintro vs W' ⟨e19, hm⟩
              simp only [putAll, List.map_cons, List.map_nil, Act.put, List.setIfInBounds_toArray, List.set_cons_succ, List.set_cons_zero]
              rw [e19]
              clear e19
              have HM160 := Lib.hid hm
              clear hm
              refine then_normal ?_
              refine wp_seq ?_
              refine wp_region_N [(0, 1), (1, 1), (2, 3), (3, 1), (4, 1), (5, 1), (6, 1), (7, 1), (8, 1), (9, 1), (10, 1), (11, 1), (12, 1), (13, 1), (14, 1), (15, 1), (16, 3), (17, 1), (18, 1)] (by kernel_rfl) ?_
              refine wpS_loadA (i := 0) (d := some 132) (cells := rgC (j) (.slice pj j.p.2.2.length cj)) rfl (by rfl) rfl rfl (HM160.out.sub 0 rfl (fun k u h => by rw [Nat.zero_add]; exact h)) Try.underlying30 rfl (by kernel_rfl) rfl ?_
              simp only [Act.put, List.setIfInBounds_toArray, List.set_cons_succ, List.set_cons_zero]
              refine wpS_loadA (i := 1) (d := some 133) (cells := rgC (z) (.slice pz z.p.2.2.length cz)) rfl (by rfl) rfl rfl (HM160.out.sub 1 rfl (fun k u h => by rw [Nat.zero_add]; exact h)) Try.underlying30 rfl (by kernel_rfl) rfl ?_
              simp only [Act.put, List.setIfInBounds_toArray, List.set_cons_succ, List.set_cons_zero]
              refine wpS_does2 (i := 2) (d := some 134) (rem := [_, _, _]) (out := [_, _, _, _, _]) rfl (by rfl) rfl Try.call13 (Does.ofList (gbelow_d (listT [_, _]) _ j (srcL 0 rfl rowT_reads) lj _ z (srcL 1 rfl rowT_reads) lz)) rfl rfl HM160.out [2, 2] rfl covS_nil rfl rfl ?_
              rintro W162 hm161 -
              rw [hbz.out]
              have HM163 := Lib.hid hm161
              clear hm161
              simp only [Act.put, List.setIfInBounds_toArray, List.set_cons_succ, List.set_cons_zero]
              refine wpS_this [3, 4, 5, 6, 7, 8, 9, 10, 11, 12, 13, 14, 15] rfl (by kernel_rfl) (by simp only [pickL, nthL, List.cons_append, List.nil_append]; rfl) ?_
              repeat (go_big_quiet_step (fail))
              refine wpQuiet_nil ?_
              refine wpS_does0 (i := 16) (d := some 148) (rem := [_, _, _, _, _]) (out := [_, _, _, _, _]) rfl (by rfl) rfl Try.call9 (lawake_d)  HM163.out [] rfl covS_nil rfl rfl ?_
              rintro W165 hm164 -
              have HM166 := Lib.hid hm164
              clear hm164
              simp only [Act.put, List.setIfInBounds_toArray, List.set_cons_succ, List.set_cons_zero]
              refine wpS_this [17, 18] rfl (by kernel_rfl) (by simp only [pickL, nthL, List.cons_append, List.nil_append]; rfl) ?_
              repeat (go_big_quiet_step (fail))
              refine wpQuiet_nil ?_
              refine wpS_nil ?_
              refine then_normal ?_
              refine wp_ret ?_
              refine bodyPost_ret (results_tmp rfl _ _ _) rfl ?_
              exact does_ret (Mem.only (M := [_]) HM166.out [4] rfl) rfl rfl
            · have hag2 : Hid (stageR z z4 l = (noR, 1)) := Lib.hid (by rw [hag.out, if_neg hnd])
              clear hnd
              refine wp_cut_F [18, 19, 123, 124, 125, 126, 127, 128, 129, 130, 131] (fun vs W' => vs 19 = .int .i64 1 ∧ Mem [boxT b62 (.cells (rgC j (.slice pj j.p.2.2.length cj)).toArray 30 (0, 0)), boxT b106 (.cells (rgC z (.slice pz z.p.2.2.length cz)).toArray 30 (0, 0)), rowT elemI (.slice pj j.p.2.2.length cj) j.p.2.2, rowT elemI (.slice pz z.p.2.2.length cz) z.p.2.2, oldT W0] H w W') ?_ ?_
              · refine wp_region_taken [] (fun k => k ∈ ([b106] : List Nat)) (by kernel_rfl) rfl rfl ?_
                have hm167 := HM110.out.drew
                have HM168 := Lib.hid hm167
                clear hm167
                refine wpT_takeS (i := 0) (by kernel_rfl) (by kernel_rfl) ?_
                refine wpS_loadA2 (i := 0) (d := some 124) (cells := rgC (z) (.slice pz z.p.2.2.length cz)) rfl (by rfl) rfl rfl (by simp) (HM168.out.sub 0 rfl (fun k u h => by rw [Nat.zero_add]; exact h)) Try.underlying30 rfl (by kernel_rfl) rfl ?_
                simp only [Act.put, List.setIfInBounds_toArray, List.set_cons_succ, List.set_cons_zero]
                refine wpS_nil ?_
                refine wpT_takeS (i := 1) (by kernel_rfl) (by kernel_rfl) ?_
                refine wpS_loadA2 (i := 1) (d := some 125) (cells := rgC (z) (.slice pz z.p.2.2.length cz)) rfl (by rfl) rfl rfl (by simp) (HM168.out.sub 0 rfl (fun k u h => by rw [Nat.zero_add]; exact h)) Try.underlying30 rfl (by kernel_rfl) rfl ?_
                simp only [Act.put, List.setIfInBounds_toArray, List.set_cons_succ, List.set_cons_zero]
                refine wpS_nil ?_
                refine wpT_takeS (i := 2) (by kernel_rfl) (by kernel_rfl) ?_
                refine wpS_stay [2] rfl (by kernel_rfl) (by simp only [pickL, nthL, List.cons_append, List.nil_append]; rfl) ?_
                repeat (go_big_quiet_step (fail))
                refine wpQuiet_nil ?_
                refine wpS_nil ?_
                refine wpT_takeS (i := 4) (by kernel_rfl) (by kernel_rfl) ?_
                refine wpS_stay [4] rfl (by kernel_rfl) (by simp only [pickL, nthL, List.cons_append, List.nil_append]; rfl) ?_
                repeat (go_big_quiet_step (fail))
                refine wpQuiet_nil ?_
                refine wpS_nil ?_
                refine wpT_ready 3 [9] (by kernel_rfl) (allT_cons ?_ (allT_cons ?_ allT_nil))
                · refine opT_S (by kernel_rfl) ?_
                  refine wpS_does2 (i := 3) (d := some 127) (rem := [_, _, _, _, _, _, _, _, _, _]) (out := [_, _, _, _, _, _, _, _, _, _, _, _]) rfl (by rfl) rfl Try.call14 (Does.ofList (gleader_d (listT [_, _]) _ z (srcL 0 rfl rowT_reads) lz _ l (rowL 1 rfl rowOwn) ll)) rfl rfl HM168.out [1, 2] rfl (covS_box 0 rfl covS_nil) rfl rfl ?_
                  rintro W170 hm169 hg171
                  rw [hz4.out]
                  have HM172 := Lib.hid hm169
                  clear hm169
                  simp only [Act.put, List.setIfInBounds_toArray, List.set_cons_succ, List.set_cons_zero]
                  refine wpS_nil ?_
                  refine wpT_ready 5 [9] (by kernel_rfl) (allT_cons ?_ (allT_cons ?_ allT_nil))
                  · refine opT_S (by kernel_rfl) ?_
                    refine wpS_doesU3 (i := 5) (d := some 129) (rem := [_, _, _, _, _, _, _, _, _, _]) rfl (by rfl) rfl Try.call10 (DoesU.ofList (gstage_d (listT [_, _]) _ z (srcL 0 rfl rowT_reads) lz z4 _ l (rowL 1 rfl rowOwn) ll noR 1 hag2.out)) rfl rfl rfl HM172.out [0, 0] rfl (covS_box 0 rfl covS_nil) (fun _ => rfl) rfl ?_
                    rintro u176 W174 hm173 hg175
                    obtain ⟨pw, cw, rfl, hm173q⟩ := Mem.ringE (n := 0) rfl hm173
                    clear hm173
                    have HM177 := Lib.hid hm173q
                    clear hm173q
                    simp only [Act.put, List.setIfInBounds_toArray, List.set_cons_succ, List.set_cons_zero]
                    refine wpS_nil ?_
                    refine wpT_takeS (i := 6) (by kernel_rfl) (by kernel_rfl) ?_
                    refine wpS_stay [6] rfl (by kernel_rfl) (by simp only [pickL, nthL, List.cons_append, List.nil_append]; rfl) ?_
                    repeat (go_big_quiet_step (fail))
                    refine wpQuiet_nil ?_
                    refine wpS_nil ?_
                    refine wpT_takeS (i := 7) (by kernel_rfl) (by kernel_rfl) ?_
                    refine wpS_stay [7] rfl (by kernel_rfl) (by simp only [pickL, nthL, List.cons_append, List.nil_append]; rfl) ?_
                    repeat (go_big_quiet_step (fail))
                    refine wpQuiet_nil ?_
                    refine wpS_nil ?_
                    refine wpT_takeS (i := 8) (by kernel_rfl) (by kernel_rfl) ?_
                    refine wpS_stay [8] rfl (by kernel_rfl) (by simp only [pickL, nthL, List.cons_append, List.nil_append]; rfl) ?_
                    repeat (go_big_quiet_step (fail))
                    refine wpQuiet_nil ?_
                    refine wpS_nil ?_
                    refine wpT_ready 9 [] (by kernel_rfl) (allT_cons ?_ allT_nil)
                    refine opT_S (by kernel_rfl) ?_
                    refine wpS_alloc (i := 9) (dd := 18) (z := rgV noR (.slice none 0 0)) (cs := (rgC noR (.slice none 0 0)).toArray) rfl (by rfl) rfl (by kernel_rfl) rfl HM177.out (covS_box 3 rfl covS_nil) rfl ?_
                    rintro b181 W180 hm179 hg178
                    have HM182 := Lib.hid hm179
                    clear hm179
                    simp only [Act.put, List.setIfInBounds_toArray, List.set_cons_succ, List.set_cons_zero]
                    refine wpS_nil ?_
                    refine wpT_ready 10 [] (by kernel_rfl) (allT_cons ?_ allT_nil)
                    refine opT_S (by kernel_rfl) ?_
                    refine wpS_storeA (i := 10) (L2 := [_, _, _, _, _, _, _, _, _, _, _, _, _]) (cs' := rgC noR (.slice pw 0 cw)) rfl (by rfl) rfl rfl rfl (by kernel_rfl) (rgC_one _ _ _) HM182.out 0 rfl rfl (by kernel_rfl) (by kernel_rfl) (covS_box 3 rfl covS_nil) rfl ?_
                    rintro W184 hm183 -
                    have HM185 := Lib.hid hm183
                    clear hm183
                    refine wpS_nil ?_
                    refine wpT_takeS (i := 11) (by kernel_rfl) (by kernel_rfl) ?_
                    refine wpS_stay [11] rfl (by kernel_rfl) (by simp only [pickL, nthL, List.cons_append, List.nil_append]; rfl) ?_
                    repeat (go_big_quiet_step (fail))
                    refine wpQuiet_nil ?_
                    refine wpS_nil ?_
                    refine wpT_end (by kernel_rfl) ?_
                    refine then_normal ?_
                    refine ⟨by kernel_rfl, ?_⟩
                    exact ⟨rfl, (Mem.only (M := [_, _, _, _, _]) HM185.out [8, 4, 4, 2, 6] rfl)⟩
                  · refine opT_S (by kernel_rfl) ?_
                    refine wpS_alloc (i := 9) (dd := 18) (z := rgV noR (.slice none 0 0)) (cs := (rgC noR (.slice none 0 0)).toArray) rfl (by rfl) rfl (by kernel_rfl) rfl HM172.out (covS_box 2 rfl covS_nil) rfl ?_
                    rintro b189 W188 hm187 hg186
                    have HM190 := Lib.hid hm187
                    clear hm187
                    simp only [Act.put, List.setIfInBounds_toArray, List.set_cons_succ, List.set_cons_zero]
                    refine wpS_nil ?_
                    refine wpT_ready 5 [] (by kernel_rfl) (allT_cons ?_ allT_nil)
                    refine opT_S (by kernel_rfl) ?_
                    refine wpS_doesU3 (i := 5) (d := some 129) (rem := [_, _, _, _, _, _, _, _, _, _, _]) rfl (by rfl) rfl Try.call10 (DoesU.ofList (gstage_d (listT [_, _]) _ z (srcL 0 rfl rowT_reads) lz z4 _ l (rowL 1 rfl rowOwn) ll noR 1 hag2.out)) rfl rfl rfl HM190.out [1, 1] rfl (covS_box 1 rfl covS_nil) (fun _ => rfl) rfl ?_
                    rintro u194 W192 hm191 hg193
                    obtain ⟨pw, cw, rfl, hm191q⟩ := Mem.ringE (n := 0) rfl hm191
                    clear hm191
                    have HM195 := Lib.hid hm191q
                    clear hm191q
                    simp only [Act.put, List.setIfInBounds_toArray, List.set_cons_succ, List.set_cons_zero]
                    refine wpS_nil ?_
                    refine wpT_takeS (i := 6) (by kernel_rfl) (by kernel_rfl) ?_
                    refine wpS_stay [6] rfl (by kernel_rfl) (by simp only [pickL, nthL, List.cons_append, List.nil_append]; rfl) ?_
                    repeat (go_big_quiet_step (fail))
                    refine wpQuiet_nil ?_
                    refine wpS_nil ?_
                    refine wpT_takeS (i := 7) (by kernel_rfl) (by kernel_rfl) ?_
                    refine wpS_stay [7] rfl (by kernel_rfl) (by simp only [pickL, nthL, List.cons_append, List.nil_append]; rfl) ?_
                    repeat (go_big_quiet_step (fail))
                    refine wpQuiet_nil ?_
                    refine wpS_nil ?_
                    refine wpT_takeS (i := 8) (by kernel_rfl) (by kernel_rfl) ?_
                    refine wpS_stay [8] rfl (by kernel_rfl) (by simp only [pickL, nthL, List.cons_append, List.nil_append]; rfl) ?_
                    repeat (go_big_quiet_step (fail))
                    refine wpQuiet_nil ?_
                    refine wpS_nil ?_
                    refine wpT_ready 10 [] (by kernel_rfl) (allT_cons ?_ allT_nil)
                    refine opT_S (by kernel_rfl) ?_
                    refine wpS_storeA (i := 10) (L2 := [_, _, _, _, _, _, _, _, _, _, _, _, _]) (cs' := rgC noR (.slice pw 0 cw)) rfl (by rfl) rfl rfl rfl (by kernel_rfl) (rgC_one _ _ _) HM195.out 3 rfl rfl (by kernel_rfl) (by kernel_rfl) (covS_box 3 rfl covS_nil) rfl ?_
                    rintro W197 hm196 -
                    have HM198 := Lib.hid hm196
                    clear hm196
                    refine wpS_nil ?_
                    refine wpT_takeS (i := 11) (by kernel_rfl) (by kernel_rfl) ?_
                    refine wpS_stay [11] rfl (by kernel_rfl) (by simp only [pickL, nthL, List.cons_append, List.nil_append]; rfl) ?_
                    repeat (go_big_quiet_step (fail))
                    refine wpQuiet_nil ?_
                    refine wpS_nil ?_
                    refine wpT_end (by kernel_rfl) ?_
                    refine then_normal ?_
                    refine ⟨by kernel_rfl, ?_⟩
                    exact ⟨rfl, (Mem.only (M := [_, _, _, _, _]) HM198.out [8, 4, 4, 2, 6] rfl)⟩
                · refine opT_S (by kernel_rfl) ?_
                  refine wpS_alloc (i := 9) (dd := 18) (z := rgV noR (.slice none 0 0)) (cs := (rgC noR (.slice none 0 0)).toArray) rfl (by rfl) rfl (by kernel_rfl) rfl HM168.out (covS_box 0 rfl covS_nil) rfl ?_
                  rintro b202 W201 hm200 hg199
                  have HM203 := Lib.hid hm200
                  clear hm200
                  simp only [Act.put, List.setIfInBounds_toArray, List.set_cons_succ, List.set_cons_zero]
                  refine wpS_nil ?_
                  refine wpT_ready 3 [] (by kernel_rfl) (allT_cons ?_ allT_nil)
                  refine opT_S (by kernel_rfl) ?_
                  refine wpS_does2 (i := 3) (d := some 127) (rem := [_, _, _, _, _, _, _, _, _, _, _]) (out := [_, _, _, _, _, _, _, _, _, _, _, _, _]) rfl (by rfl) rfl Try.call14 (Does.ofList (gleader_d (listT [_, _]) _ z (srcL 0 rfl rowT_reads) lz _ l (rowL 1 rfl rowOwn) ll)) rfl rfl HM203.out [2, 3] rfl (covS_box 1 rfl covS_nil) rfl rfl ?_
                  rintro W205 hm204 hg206
                  rw [hz4.out]
                  have HM207 := Lib.hid hm204
                  clear hm204
                  simp only [Act.put, List.setIfInBounds_toArray, List.set_cons_succ, List.set_cons_zero]
                  refine wpS_nil ?_
                  refine wpT_ready 5 [] (by kernel_rfl) (allT_cons ?_ allT_nil)
                  refine opT_S (by kernel_rfl) ?_
                  refine wpS_doesU3 (i := 5) (d := some 129) (rem := [_, _, _, _, _, _, _, _, _, _, _]) rfl (by rfl) rfl Try.call10 (DoesU.ofList (gstage_d (listT [_, _]) _ z (srcL 0 rfl rowT_reads) lz z4 _ l (rowL 1 rfl rowOwn) ll noR 1 hag2.out)) rfl rfl rfl HM207.out [0, 0] rfl (covS_box 1 rfl covS_nil) (fun _ => rfl) rfl ?_
                  rintro u211 W209 hm208 hg210
                  obtain ⟨pw, cw, rfl, hm208q⟩ := Mem.ringE (n := 0) rfl hm208
                  clear hm208
                  have HM212 := Lib.hid hm208q
                  clear hm208q
                  simp only [Act.put, List.setIfInBounds_toArray, List.set_cons_succ, List.set_cons_zero]
                  refine wpS_nil ?_
                  refine wpT_takeS (i := 6) (by kernel_rfl) (by kernel_rfl) ?_
                  refine wpS_stay [6] rfl (by kernel_rfl) (by simp only [pickL, nthL, List.cons_append, List.nil_append]; rfl) ?_
                  repeat (go_big_quiet_step (fail))
                  refine wpQuiet_nil ?_
                  refine wpS_nil ?_
                  refine wpT_takeS (i := 7) (by kernel_rfl) (by kernel_rfl) ?_
                  refine wpS_stay [7] rfl (by kernel_rfl) (by simp only [pickL, nthL, List.cons_append, List.nil_append]; rfl) ?_
                  repeat (go_big_quiet_step (fail))
                  refine wpQuiet_nil ?_
                  refine wpS_nil ?_
                  refine wpT_takeS (i := 8) (by kernel_rfl) (by kernel_rfl) ?_
                  refine wpS_stay [8] rfl (by kernel_rfl) (by simp only [pickL, nthL, List.cons_append, List.nil_append]; rfl) ?_
                  repeat (go_big_quiet_step (fail))
                  refine wpQuiet_nil ?_
                  refine wpS_nil ?_
                  refine wpT_ready 10 [] (by kernel_rfl) (allT_cons ?_ allT_nil)
                  refine opT_S (by kernel_rfl) ?_
                  refine wpS_storeA (i := 10) (L2 := [_, _, _, _, _, _, _, _, _, _, _, _, _]) (cs' := rgC noR (.slice pw 0 cw)) rfl (by rfl) rfl rfl rfl (by kernel_rfl) (rgC_one _ _ _) HM212.out 3 rfl rfl (by kernel_rfl) (by kernel_rfl) (covS_box 3 rfl covS_nil) rfl ?_
                  rintro W214 hm213 -
                  have HM215 := Lib.hid hm213
                  clear hm213
                  refine wpS_nil ?_
                  refine wpT_takeS (i := 11) (by kernel_rfl) (by kernel_rfl) ?_
                  refine wpS_stay [11] rfl (by kernel_rfl) (by simp only [pickL, nthL, List.cons_append, List.nil_append]; rfl) ?_
                  repeat (go_big_quiet_step (fail))
                  refine wpQuiet_nil ?_
                  refine wpS_nil ?_
                  refine wpT_end (by kernel_rfl) ?_
                  refine then_normal ?_
                  refine ⟨by kernel_rfl, ?_⟩
                  exact ⟨rfl, (Mem.only (M := [_, _, _, _, _]) HM215.out [8, 4, 4, 2, 6] rfl)⟩
              rintro vs W' ⟨e19, hm⟩
              simp only [putAll, List.map_cons, List.map_nil, Act.put, List.setIfInBounds_toArray, List.set_cons_succ, List.set_cons_zero]
              rw [e19]
              clear e19
              have HM216 := Lib.hid hm
              clear hm
              refine then_normal ?_
              refine wp_seq ?_
              refine wp_region_N [(0, 1), (1, 1), (2, 3), (3, 1), (4, 1), (5, 1), (6, 1), (7, 1), (8, 1), (9, 1), (10, 1), (11, 1), (12, 1), (13, 1), (14, 1), (15, 1), (16, 3), (17, 1), (18, 1)] (by kernel_rfl) ?_
              refine wpS_loadA (i := 0) (d := some 132) (cells := rgC (j) (.slice pj j.p.2.2.length cj)) rfl (by rfl) rfl rfl (HM216.out.sub 0 rfl (fun k u h => by rw [Nat.zero_add]; exact h)) Try.underlying30 rfl (by kernel_rfl) rfl ?_
              simp only [Act.put, List.setIfInBounds_toArray, List.set_cons_succ, List.set_cons_zero]
              refine wpS_loadA (i := 1) (d := some 133) (cells := rgC (z) (.slice pz z.p.2.2.length cz)) rfl (by rfl) rfl rfl (HM216.out.sub 1 rfl (fun k u h => by rw [Nat.zero_add]; exact h)) Try.underlying30 rfl (by kernel_rfl) rfl ?_
              simp only [Act.put, List.setIfInBounds_toArray, List.set_cons_succ, List.set_cons_zero]
              refine wpS_does2 (i := 2) (d := some 134) (rem := [_, _, _]) (out := [_, _, _, _, _]) rfl (by rfl) rfl Try.call13 (Does.ofList (gbelow_d (listT [_, _]) _ j (srcL 0 rfl rowT_reads) lj _ z (srcL 1 rfl rowT_reads) lz)) rfl rfl HM216.out [2, 2] rfl covS_nil rfl rfl ?_
              rintro W218 hm217 -
              rw [hbz.out]
              have HM219 := Lib.hid hm217
              clear hm217
              simp only [Act.put, List.setIfInBounds_toArray, List.set_cons_succ, List.set_cons_zero]
              refine wpS_this [3, 4, 5, 6, 7, 8, 9, 10, 11, 12, 13, 14, 15] rfl (by kernel_rfl) (by simp only [pickL, nthL, List.cons_append, List.nil_append]; rfl) ?_
              repeat (go_big_quiet_step (fail))
              refine wpQuiet_nil ?_
              refine wpS_does0 (i := 16) (d := some 148) (rem := [_, _, _, _, _]) (out := [_, _, _, _, _]) rfl (by rfl) rfl Try.call9 (lawake_d)  HM219.out [] rfl covS_nil rfl rfl ?_
              rintro W221 hm220 -
              have HM222 := Lib.hid hm220
              clear hm220
              simp only [Act.put, List.setIfInBounds_toArray, List.set_cons_succ, List.set_cons_zero]
              refine wpS_this [17, 18] rfl (by kernel_rfl) (by simp only [pickL, nthL, List.cons_append, List.nil_append]; rfl) ?_
              repeat (go_big_quiet_step (fail))
              refine wpQuiet_nil ?_
              refine wpS_nil ?_
              refine then_normal ?_
              refine wp_ret ?_
              refine bodyPost_ret (results_tmp rfl _ _ _) rfl ?_
              exact does_ret (Mem.only (M := [_]) HM222.out [4] rfl) rfl rfl
          · subst h0
            subst h1
            refine wp_region_N [(0, 1), (1, 1)] (by kernel_rfl) ?_
            refine wpS_this [0, 1] rfl (by kernel_rfl) (by simp only [pickL, nthL, List.cons_append, List.nil_append]; rfl) ?_
            repeat (go_big_quiet_step (fail))
            refine wpQuiet_nil ?_
            refine wpS_nil ?_
            refine then_normal ?_
            refine wp_cond_true rfl ?_
            refine wp_seq ?_
            refine wp_region_N [(0, 1), (1, 1), (2, 1), (3, 1), (4, 1), (5, 1), (6, 1), (7, 3), (8, 1), (9, 1)] (by kernel_rfl) ?_
            refine wpS_this [0, 1, 2, 3, 4, 5, 6] rfl (by kernel_rfl) (by simp only [pickL, nthL, List.cons_append, List.nil_append]; rfl) ?_
            repeat (go_big_quiet_step (fail))
            refine wpQuiet_nil ?_
            refine wpS_does0 (i := 7) (d := some 121) (rem := [_, _, _, _, _, _, _, _, _, _, _, _]) (out := [_, _, _, _, _, _, _, _, _, _, _, _]) rfl (by rfl) rfl Try.call9 (lawake_d)  HM110.out [] rfl covS_nil rfl rfl ?_
            rintro W224 hm223 -
            have HM225 := Lib.hid hm223
            clear hm223
            simp only [Act.put, List.setIfInBounds_toArray, List.set_cons_succ, List.set_cons_zero]
            refine wpS_this [8, 9] rfl (by kernel_rfl) (by simp only [pickL, nthL, List.cons_append, List.nil_append]; rfl) ?_
            repeat (go_big_quiet_step (fail))
            refine wpQuiet_nil ?_
            refine wpS_nil ?_
            refine then_normal ?_
            refine wp_ret ?_
            refine then_ret ?_
            refine bodyPost_ret (results_tmp rfl _ _ _) rfl ?_
            exact does_ret (Mem.only (M := [_]) HM225.out [8] rfl) rfl rfl
          · subst h0
            subst h1
            refine wp_region_N [(0, 1), (1, 1)] (by kernel_rfl) ?_
            refine wpS_this [0, 1] rfl (by kernel_rfl) (by simp only [pickL, nthL, List.cons_append, List.nil_append]; rfl) ?_
            repeat (go_big_quiet_step (fail))
            refine wpQuiet_nil ?_
            refine wpS_nil ?_
            refine then_normal ?_
            refine wp_cond_true rfl ?_
            refine wp_seq ?_
            refine wp_region_N [(0, 1), (1, 1), (2, 1), (3, 1), (4, 1), (5, 1), (6, 1), (7, 3), (8, 1), (9, 1)] (by kernel_rfl) ?_
            refine wpS_this [0, 1, 2, 3, 4, 5, 6] rfl (by kernel_rfl) (by simp only [pickL, nthL, List.cons_append, List.nil_append]; rfl) ?_
            repeat (go_big_quiet_step (fail))
            refine wpQuiet_nil ?_
            refine wpS_does0 (i := 7) (d := some 121) (rem := [_, _, _, _, _, _, _, _, _, _, _, _]) (out := [_, _, _, _, _, _, _, _, _, _, _, _]) rfl (by rfl) rfl Try.call9 (lawake_d)  HM110.out [] rfl covS_nil rfl rfl ?_
            rintro W227 hm226 -
            have HM228 := Lib.hid hm226
            clear hm226
            simp only [Act.put, List.setIfInBounds_toArray, List.set_cons_succ, List.set_cons_zero]
            refine wpS_this [8, 9] rfl (by kernel_rfl) (by simp only [pickL, nthL, List.cons_append, List.nil_append]; rfl) ?_
            repeat (go_big_quiet_step (fail))
            refine wpQuiet_nil ?_
            refine wpS_nil ?_
            refine then_normal ?_
            refine wp_ret ?_
            refine then_ret ?_
            refine bodyPost_ret (results_tmp rfl _ _ _) rfl ?_
            exact does_ret (Mem.only (M := [_]) HM228.out [8] rfl) rfl rfl
      · have gy : (ye != 0) = true := bne_iff_ne.2 hye
        subst hxe
        clear hye
        refine wp_region_N [(0, 1), (1, 1), (2, 1), (3, 1), (4, 1), (5, 1)] (by kernel_rfl) ?_
        refine wpS_this [0, 1, 2, 3, 4, 5] rfl (by kernel_rfl) (by simp only [pickL, nthL, List.cons_append, List.nil_append]; rfl) ?_
        repeat (go_big_quiet_step (fail))
        refine wpQuiet_nil ?_
        refine wpS_nil ?_
        refine then_normal ?_
        refine wp_cond_true rfl ?_
        refine wp_seq ?_
        refine wp_region_N [(0, 3), (1, 1)] (by kernel_rfl) ?_
        refine wpS_does0 (i := 0) (d := some 68) (rem := [_, _, _, _, _, _, _]) (out := [_, _, _, _, _, _, _]) rfl (by rfl) rfl Try.call9 (lawake_d)  HM55.out [] rfl covS_nil rfl rfl ?_
        rintro W230 hm229 -
        have HM231 := Lib.hid hm229
        clear hm229
        simp only [Act.put, List.setIfInBounds_toArray, List.set_cons_succ, List.set_cons_zero]
        refine wpS_this [1] rfl (by kernel_rfl) (by simp only [pickL, nthL, List.cons_append, List.nil_append]; rfl) ?_
        repeat (go_big_quiet_step (fail))
        refine wpQuiet_nil ?_
        refine wpS_nil ?_
        refine then_normal ?_
        refine wp_ret ?_
        refine then_ret ?_
        refine bodyPost_ret (results_tmp rfl _ _ _) rfl ?_
        exact does_ret (Mem.only (M := [_]) HM231.out [2] rfl) rfl rfl
      · have gx : (xe != 0) = true := bne_iff_ne.2 hxe
        clear hxe hye
        refine wp_region_N [(0, 1), (1, 1), (2, 1), (3, 1), (4, 1), (5, 1)] (by kernel_rfl) ?_
        refine wpS_this [0, 1, 2, 3, 4, 5] rfl (by kernel_rfl) (by simp only [pickL, nthL, List.cons_append, List.nil_append]; rfl) ?_
        repeat (go_big_quiet_step (fail))
        refine wpQuiet_nil ?_
        refine wpS_nil ?_
        refine then_normal ?_
        refine wp_cond_true rfl ?_
        refine wp_seq ?_
        refine wp_region_N [(0, 3), (1, 1)] (by kernel_rfl) ?_
        refine wpS_does0 (i := 0) (d := some 68) (rem := [_, _, _, _, _, _, _]) (out := [_, _, _, _, _, _, _]) rfl (by rfl) rfl Try.call9 (lawake_d)  HM55.out [] rfl covS_nil rfl rfl ?_
        rintro W233 hm232 -
        have HM234 := Lib.hid hm232
        clear hm232
        simp only [Act.put, List.setIfInBounds_toArray, List.set_cons_succ, List.set_cons_zero]
        refine wpS_this [1] rfl (by kernel_rfl) (by simp only [pickL, nthL, List.cons_append, List.nil_append]; rfl) ?_
        repeat (go_big_quiet_step (fail))
        refine wpQuiet_nil ?_
        refine wpS_nil ?_
        refine then_normal ?_
        refine wp_ret ?_
        refine then_ret ?_
        refine bodyPost_ret (results_tmp rfl _ _ _) rfl ?_
        exact does_ret (Mem.only (M := [_]) HM234.out [2] rfl) rfl rfl
      · have gx : (xe != 0) = true := bne_iff_ne.2 hxe
        clear hxe hye
        refine wp_region_N [(0, 1), (1, 1), (2, 1), (3, 1), (4, 1), (5, 1)] (by kernel_rfl) ?_
        refine wpS_this [0, 1, 2, 3, 4, 5] rfl (by kernel_rfl) (by simp only [pickL, nthL, List.cons_append, List.nil_append]; rfl) ?_
        repeat (go_big_quiet_step (fail))
        refine wpQuiet_nil ?_
        refine wpS_nil ?_
        refine then_normal ?_
        refine wp_cond_true rfl ?_
        refine wp_seq ?_
        refine wp_region_N [(0, 3), (1, 1)] (by kernel_rfl) ?_
        refine wpS_does0 (i := 0) (d := some 68) (rem := [_, _, _, _, _, _, _]) (out := [_, _, _, _, _, _, _]) rfl (by rfl) rfl Try.call9 (lawake_d)  HM55.out [] rfl covS_nil rfl rfl ?_
        rintro W236 hm235 -
        have HM237 := Lib.hid hm235
        clear hm235
        simp only [Act.put, List.setIfInBounds_toArray, List.set_cons_succ, List.set_cons_zero]
        refine wpS_this [1] rfl (by kernel_rfl) (by simp only [pickL, nthL, List.cons_append, List.nil_append]; rfl) ?_
        repeat (go_big_quiet_step (fail))
        refine wpQuiet_nil ?_
        refine wpS_nil ?_
        refine then_normal ?_
        refine wp_ret ?_
        refine then_ret ?_
        refine bodyPost_ret (results_tmp rfl _ _ _) rfl ?_
        exact does_ret (Mem.only (M := [_]) HM237.out [2] rfl) rfl rfl
  · replace hw : a.p.2.2.length ≤ 100 := hw
    replace hfw : Hid (hvy 0 [⟨a, pa, a.p.2.2.length, ca⟩] = 0) := Lib.hid hfw
    have la : a.p.2.2.length ≤ 1000 := by omega
    clear hw
    have g60h : decide (60 < sh.length) = false := decide_eq_false (by omega)
    have g60h' : decide ((60 : Int) < (sh.length : Int)) = false := decide_eq_false (by omega)
    have g60k : decide (60 < sk.length) = true := decide_eq_true (by omega)
    have g60k' : decide ((60 : Int) < (sk.length : Int)) = true := decide_eq_true (by omega)
    refine wp_region_N [(0, 1), (1, 3), (2, 3), (3, 1), (4, 1), (5, 1), (6, 1), (7, 1), (8, 1), (9, 1), (10, 1), (11, 1), (12, 1), (13, 1)] (by kernel_rfl) ?_
    refine wpS_loadA (i := 0) (d := some 20) (cells := rgC (a) (.slice pa a.p.2.2.length ca)) rfl (by rfl) rfl rfl (HM4.out.sub 0 rfl (fun k u h => by rw [Nat.zero_add]; exact h)) Try.underlying30 rfl (by kernel_rfl) rfl ?_
    simp only [Act.put, List.setIfInBounds_toArray, List.set_cons_succ, List.set_cons_zero]
    refine wpS_buildN elemR (i := 1) (dd := 21) (n := 1) (xs := [⟨a, pa, a.p.2.2.length, ca⟩]) (cs := (rgC a (.slice pa a.p.2.2.length ca) ++ []).toArray) rfl (by rfl) (fun _ => by kernel_rfl) rfl rfl HM4.out covS_nil rfl ?_
    rintro b240 W241 hm242 -
    have HM243 := Lib.hid hm242
    clear hm242
    simp only [Act.put, List.setIfInBounds_toArray, List.set_cons_succ, List.set_cons_zero]
    refine wpS_does1 (i := 2) (d := some 22) (rem := [_, _]) (out := [_, _, _]) rfl (by rfl) rfl Try.call8 (heavy_d (rowT elemR _ _) _ _ rowOwnE (Nat.le_of_ble_eq_true rfl)) rfl HM243.out [0] rfl covS_nil rfl rfl ?_
    rintro W245 hm244 -
    rw [hfw.out]
    have HM246 := Lib.hid hm244
    clear hm244
    simp only [Act.put, List.setIfInBounds_toArray, List.set_cons_succ, List.set_cons_zero]
    refine wpS_this [3, 4, 5, 6, 7, 8, 9, 10, 11, 12, 13] rfl (by kernel_rfl) (by simp only [pickL, nthL, List.cons_append, List.nil_append]; rfl) ?_
    repeat (go_big_quiet_step (fail))
    refine wpQuiet_nil ?_
    refine wpS_nil ?_
    refine then_normal ?_
    refine wp_cond_true rfl ?_
    refine wp_seq ?_
    refine wp_region_N [(0, 3), (1, 1)] (by kernel_rfl) ?_
    refine wpS_does0 (i := 0) (d := some 34) (rem := [_, _, _]) (out := [_, _, _]) rfl (by rfl) rfl Try.call9 (lawake_d)  HM246.out [] rfl covS_nil rfl rfl ?_
    rintro W248 hm247 -
    have HM249 := Lib.hid hm247
    clear hm247
    simp only [Act.put, List.setIfInBounds_toArray, List.set_cons_succ, List.set_cons_zero]
    refine wpS_this [1] rfl (by kernel_rfl) (by simp only [pickL, nthL, List.cons_append, List.nil_append]; rfl) ?_
    repeat (go_big_quiet_step (fail))
    refine wpQuiet_nil ?_
    refine wpS_nil ?_
    refine then_normal ?_
    refine wp_ret ?_
    refine then_ret ?_
    refine bodyPost_ret (results_tmp rfl _ _ _) rfl ?_
    exact does_ret (Mem.only (M := [_]) HM249.out [2] rfl) rfl rfl
  · replace hw : a.p.2.2.length ≤ 100 := hw
    replace hfw : Hid (hvy 0 [⟨a, pa, a.p.2.2.length, ca⟩] = 0) := Lib.hid hfw
    have la : a.p.2.2.length ≤ 1000 := by omega
    clear hw
    have g60h : decide (60 < sh.length) = true := decide_eq_true (by omega)
    have g60h' : decide ((60 : Int) < (sh.length : Int)) = true := decide_eq_true (by omega)
    refine wp_region_N [(0, 1), (1, 3), (2, 3), (3, 1), (4, 1), (5, 1), (6, 1), (7, 1), (8, 1), (9, 1), (10, 1), (11, 1), (12, 1), (13, 1)] (by kernel_rfl) ?_
    refine wpS_loadA (i := 0) (d := some 20) (cells := rgC (a) (.slice pa a.p.2.2.length ca)) rfl (by rfl) rfl rfl (HM4.out.sub 0 rfl (fun k u h => by rw [Nat.zero_add]; exact h)) Try.underlying30 rfl (by kernel_rfl) rfl ?_
    simp only [Act.put, List.setIfInBounds_toArray, List.set_cons_succ, List.set_cons_zero]
    refine wpS_buildN elemR (i := 1) (dd := 21) (n := 1) (xs := [⟨a, pa, a.p.2.2.length, ca⟩]) (cs := (rgC a (.slice pa a.p.2.2.length ca) ++ []).toArray) rfl (by rfl) (fun _ => by kernel_rfl) rfl rfl HM4.out covS_nil rfl ?_
    rintro b252 W253 hm254 -
    have HM255 := Lib.hid hm254
    clear hm254
    simp only [Act.put, List.setIfInBounds_toArray, List.set_cons_succ, List.set_cons_zero]
    refine wpS_does1 (i := 2) (d := some 22) (rem := [_, _]) (out := [_, _, _]) rfl (by rfl) rfl Try.call8 (heavy_d (rowT elemR _ _) _ _ rowOwnE (Nat.le_of_ble_eq_true rfl)) rfl HM255.out [0] rfl covS_nil rfl rfl ?_
    rintro W257 hm256 -
    rw [hfw.out]
    have HM258 := Lib.hid hm256
    clear hm256
    simp only [Act.put, List.setIfInBounds_toArray, List.set_cons_succ, List.set_cons_zero]
    refine wpS_this [3, 4, 5, 6, 7, 8, 9, 10, 11, 12, 13] rfl (by kernel_rfl) (by simp only [pickL, nthL, List.cons_append, List.nil_append]; rfl) ?_
    repeat (go_big_quiet_step (fail))
    refine wpQuiet_nil ?_
    refine wpS_nil ?_
    refine then_normal ?_
    refine wp_cond_true rfl ?_
    refine wp_seq ?_
    refine wp_region_N [(0, 3), (1, 1)] (by kernel_rfl) ?_
    refine wpS_does0 (i := 0) (d := some 34) (rem := [_, _, _]) (out := [_, _, _]) rfl (by rfl) rfl Try.call9 (lawake_d)  HM258.out [] rfl covS_nil rfl rfl ?_
    rintro W260 hm259 -
    have HM261 := Lib.hid hm259
    clear hm259
    simp only [Act.put, List.setIfInBounds_toArray, List.set_cons_succ, List.set_cons_zero]
    refine wpS_this [1] rfl (by kernel_rfl) (by simp only [pickL, nthL, List.cons_append, List.nil_append]; rfl) ?_
    repeat (go_big_quiet_step (fail))
    refine wpQuiet_nil ?_
    refine wpS_nil ?_
    refine then_normal ?_
    refine wp_ret ?_
    refine then_ret ?_
    refine bodyPost_ret (results_tmp rfl _ _ _) rfl ?_
    exact does_ret (Mem.only (M := [_]) HM261.out [2] rfl) rfl rfl
  · clear hw
    obtain ⟨z, hz'⟩ := int_letter (hvy 0 [⟨a, pa, a.p.2.2.length, ca⟩])
    replace hfw : 0 < hvy 0 [⟨a, pa, a.p.2.2.length, ca⟩] := hfw
    rw [hz'] at hfw
    have gz : decide (0 < z) = true := decide_eq_true hfw
    clear hfw
    have hfw := Lib.hid hz'
    clear hz'
    refine wp_region_N [(0, 1), (1, 3), (2, 3), (3, 1), (4, 1), (5, 1), (6, 1), (7, 1), (8, 1), (9, 1), (10, 1), (11, 1), (12, 1), (13, 1)] (by kernel_rfl) ?_
    refine wpS_loadA (i := 0) (d := some 20) (cells := rgC (a) (.slice pa a.p.2.2.length ca)) rfl (by rfl) rfl rfl (HM4.out.sub 0 rfl (fun k u h => by rw [Nat.zero_add]; exact h)) Try.underlying30 rfl (by kernel_rfl) rfl ?_
    simp only [Act.put, List.setIfInBounds_toArray, List.set_cons_succ, List.set_cons_zero]
    refine wpS_buildN elemR (i := 1) (dd := 21) (n := 1) (xs := [⟨a, pa, a.p.2.2.length, ca⟩]) (cs := (rgC a (.slice pa a.p.2.2.length ca) ++ []).toArray) rfl (by rfl) (fun _ => by kernel_rfl) rfl rfl HM4.out covS_nil rfl ?_
    rintro b264 W265 hm266 -
    have HM267 := Lib.hid hm266
    clear hm266
    simp only [Act.put, List.setIfInBounds_toArray, List.set_cons_succ, List.set_cons_zero]
    refine wpS_does1 (i := 2) (d := some 22) (rem := [_, _]) (out := [_, _, _]) rfl (by rfl) rfl Try.call8 (heavy_d (rowT elemR _ _) _ _ rowOwnE (Nat.le_of_ble_eq_true rfl)) rfl HM267.out [0] rfl covS_nil rfl rfl ?_
    rintro W269 hm268 -
    rw [hfw.out]
    have HM270 := Lib.hid hm268
    clear hm268
    simp only [Act.put, List.setIfInBounds_toArray, List.set_cons_succ, List.set_cons_zero]
    refine wpS_this [3, 4, 5, 6, 7, 8, 9, 10, 11, 12, 13] rfl (by kernel_rfl) (by simp only [pickL, nthL, List.cons_append, List.nil_append]; rfl) ?_
    repeat (go_big_quiet_step (fail))
    refine wpQuiet_nil ?_
    refine wpS_nil ?_
    refine then_normal ?_
    refine wp_cond_true rfl ?_
    refine wp_seq ?_
    refine wp_region_N [(0, 3), (1, 1)] (by kernel_rfl) ?_
    refine wpS_does0 (i := 0) (d := some 34) (rem := [_, _, _]) (out := [_, _, _]) rfl (by rfl) rfl Try.call9 (lawake_d)  HM270.out [] rfl covS_nil rfl rfl ?_
    rintro W272 hm271 -
    have HM273 := Lib.hid hm271
    clear hm271
    simp only [Act.put, List.setIfInBounds_toArray, List.set_cons_succ, List.set_cons_zero]
    refine wpS_this [1] rfl (by kernel_rfl) (by simp only [pickL, nthL, List.cons_append, List.nil_append]; rfl) ?_
    repeat (go_big_quiet_step (fail))
    refine wpQuiet_nil ?_
    refine wpS_nil ?_
    refine then_normal ?_
    refine wp_ret ?_
    refine then_ret ?_
    refine bodyPost_ret (results_tmp rfl _ _ _) rfl ?_
    exact does_ret (Mem.only (M := [_]) HM273.out [2] rfl) rfl rfl

theorem twoLaw (c0 : Rg × Value) (v1 : Value) (l1 : List Int) (v2 : Value) (l2 : List Int) (W : World) (h0 : SrcE elemI W c0.2 c0.1.p.2.2) (h1 : SrcE elemI W v1 l1) (_ : l1.length * elemI.bytes ≤ 140737488351232) (h2 : SrcE elemI W v2 l2) (_ : l2.length * elemI.bytes ≤ 140737488351232) : Gives Try.prog 6 #[rgV c0.1 c0.2, v1, v2] W (.bool true) := (two_d W c0.2 c0.1 h0 v1 l1 h1 v2 l2 h2).givesOld
end Go.Proofs.Ytdfmfcbeebfdhaa
