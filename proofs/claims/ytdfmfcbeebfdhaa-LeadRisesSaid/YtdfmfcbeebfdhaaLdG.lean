/- Lead: LeadRises. -/
import Derived.Test.YtdfmfcbeebfdhaaLdA
namespace Go.Proofs.Ytdfmfcbeebfdhaa
open Go Go.RowKit Go.BigFrame

set_option maxHeartbeats 4000000 in
set_option maxRecDepth 100000 in
theorem rises_d (W0 : World) (va : Value) (a : Rg) (ha : SrcE elemI W0 va a.p.2.2) (me : Int) (vh : Value) (sh : List Int) (hh : SrcE elemI W0 vh sh) : Does Try.prog 3 #[rgV a va, .int .i64 me, vh] [oldT W0] (.bool true) [oldT W0] := by
  intro w H hp
  have HM0 := Lib.hid (mem_refl hp)
  clear hp
  obtain ⟨pa, ca, rfl⟩ := row_form ha
  obtain ⟨ph, ch, rfl⟩ := row_form hh
  go_enter Try.func3, Try.ntmps3
  refine wp_seq ?_
  refine wp_region_N [(0, 3), (1, 1)] (by kernel_rfl) ?_
  refine wpS_boxA (i := 0) (dd := 3) rfl (by rfl) rfl rfl HM0.out covS_nil rfl ?_
  rintro b3 W2 hm1 -
  have HM4 := Lib.hid hm1
  clear hm1
  simp only [Act.put, List.setIfInBounds_toArray, List.set_cons_succ, List.set_cons_zero]
  refine wpS_this [1] rfl (by kernel_rfl) (by simp only [pickL, nthL, List.cons_append, List.nil_append]; rfl) ?_
  repeat (go_big_quiet_step (fail))
  refine wpQuiet_nil ?_
  refine wpS_nil ?_
  refine then_normal ?_
  refine wp_seq ?_
  refine wp_seq ?_
  rcases hvy1h ⟨a, pa, a.p.2.2.length, ca⟩ sh with ⟨hw, hfw, hl1⟩ | ⟨hw, hfw, hl1⟩ | ⟨hw, hfw⟩
  · replace hw : a.p.2.2.length ≤ 100 := hw
    replace hfw : Hid (hvy 0 [⟨a, pa, a.p.2.2.length, ca⟩] = 0) := Lib.hid hfw
    have la : a.p.2.2.length ≤ 1000 := by omega
    clear hw
    have g60h : decide (60 < sh.length) = false := decide_eq_false (by omega)
    have g60h' : decide ((60 : Int) < (sh.length : Int)) = false := decide_eq_false (by omega)
    have lh : sh.length ≤ 1000 := by omega
    refine wp_region_N [(0, 1), (1, 3), (2, 3), (3, 1), (4, 1), (5, 1), (6, 1), (7, 1), (8, 1)] (by kernel_rfl) ?_
    refine wpS_loadA (i := 0) (d := some 15) (cells := rgC (a) (.slice pa a.p.2.2.length ca)) rfl (by rfl) rfl rfl (HM4.out.sub 0 rfl (fun k u h => by rw [Nat.zero_add]; exact h)) Try.underlying30 rfl (by kernel_rfl) rfl ?_
    simp only [Act.put, List.setIfInBounds_toArray, List.set_cons_succ, List.set_cons_zero]
    refine wpS_buildN elemR (i := 1) (dd := 16) (n := 1) (xs := [⟨a, pa, a.p.2.2.length, ca⟩]) (cs := (rgC a (.slice pa a.p.2.2.length ca) ++ []).toArray) rfl (by rfl) (fun _ => by kernel_rfl) rfl rfl HM4.out covS_nil rfl ?_
    rintro b7 W8 hm9 -
    have HM10 := Lib.hid hm9
    clear hm9
    simp only [Act.put, List.setIfInBounds_toArray, List.set_cons_succ, List.set_cons_zero]
    refine wpS_does1 (i := 2) (d := some 17) (rem := [_, _]) (out := [_, _, _]) rfl (by rfl) rfl Try.call8 (heavy_d (rowT elemR _ _) _ _ rowOwnE (Nat.le_of_ble_eq_true rfl)) rfl HM10.out [0] rfl covS_nil rfl rfl ?_
    rintro W12 hm11 -
    rw [hfw.out]
    have HM13 := Lib.hid hm11
    clear hm11
    simp only [Act.put, List.setIfInBounds_toArray, List.set_cons_succ, List.set_cons_zero]
    refine wpS_this [3, 4, 5, 6, 7, 8] rfl (by kernel_rfl) (by simp only [pickL, nthL, List.cons_append, List.nil_append]; rfl) ?_
    repeat (go_big_quiet_step (fail))
    refine wpQuiet_nil ?_
    refine wpS_nil ?_
    refine then_normal ?_
    refine wp_cond_false rfl ?_
    refine wp_skip ?_
    refine then_normal ?_
    refine wp_seq ?_
    obtain ⟨s, se, hs'⟩ := ringE_letters (stageR a me sh)
    have ls : s.p.2.2.length ≤ 1000 := stage_len hs' la
    have hs := Lib.hid hs'
    clear hs'
    refine wp_region_N [(0, 1), (1, 1), (2, 1), (3, 3), (4, 1), (5, 1), (6, 1), (7, 3), (8, 3), (9, 1)] (by kernel_rfl) ?_
    refine wpS_loadA (i := 0) (d := some 26) (cells := rgC (a) (.slice pa a.p.2.2.length ca)) rfl (by rfl) rfl rfl (HM13.out.sub 1 rfl (fun k u h => by rw [Nat.zero_add]; exact h)) Try.underlying30 rfl (by kernel_rfl) rfl ?_
    simp only [Act.put, List.setIfInBounds_toArray, List.set_cons_succ, List.set_cons_zero]
    refine wpS_this [1, 2] rfl (by kernel_rfl) (by simp only [pickL, nthL, List.cons_append, List.nil_append]; rfl) ?_
    repeat (go_big_quiet_step (fail))
    refine wpQuiet_nil ?_
    refine wpS_doesU3 (i := 3) (d := some 29) (rem := [_, _]) rfl (by rfl) rfl Try.call10 (gstage_d (oldT W0) _ a (srcOld ha) la me _ sh (srcOld hh).row lh s se hs.out) rfl rfl rfl HM13.out [2] rfl covS_nil (fun _ => rfl) rfl ?_
    rintro u16 W15 hm14 -
    obtain ⟨ps, cs, rfl, hm14q⟩ := Mem.ringE rfl hm14
    clear hm14
    have HM17 := Lib.hid hm14q
    clear hm14q
    simp only [Act.put, List.setIfInBounds_toArray, List.set_cons_succ, List.set_cons_zero]
    refine wpS_this [4, 5, 6] rfl (by kernel_rfl) (by simp only [pickL, nthL, List.cons_append, List.nil_append]; rfl) ?_
    repeat (go_big_quiet_step (fail))
    refine wpQuiet_nil ?_
    refine wpS_alloc (i := 7) (dd := 7) (z := rgV noR (.slice none 0 0)) (cs := (rgC noR (.slice none 0 0)).toArray) rfl (by rfl) rfl (by kernel_rfl) rfl HM17.out covS_nil rfl ?_
    rintro b20 W19 hm18 -
    have HM21 := Lib.hid hm18
    clear hm18
    simp only [Act.put, List.setIfInBounds_toArray, List.set_cons_succ, List.set_cons_zero]
    refine wpS_storeA (i := 8) (L2 := [_, _, _, _]) (cs' := rgC (s) (.slice ps s.p.2.2.length cs)) rfl (by rfl) rfl rfl rfl (by kernel_rfl) (rgC_one _ _ _) HM21.out 0 rfl rfl (by kernel_rfl) (by kernel_rfl) covS_nil rfl ?_
    rintro W23 hm22 -
    have HM24 := Lib.hid hm22
    clear hm22
    refine wpS_this [9] rfl (by kernel_rfl) (by simp only [pickL, nthL, List.cons_append, List.nil_append]; rfl) ?_
    repeat (go_big_quiet_step (fail))
    refine wpQuiet_nil ?_
    refine wpS_nil ?_
    refine then_normal ?_
    refine wp_seq ?_
    refine wp_seq ?_
    by_cases hse : se = 0
    · have g1 : (se != 0) = false := by rw [bne_eq_false_iff_eq]; exact hse
      subst hse
      have hsd : Staged a s me sh := stage_ok hs.out
      have hn := of_decide_eq_true hsd.node
      have gn0 : decide (me < 0) = false := decide_eq_false (by omega)
      have gn8 : decide (8 ≤ me) = false := decide_eq_false (by omega)
      clear hn
      have hag : Hid (stageR s me sh = (noR, if leaderR s sh = me then 9 else 10)) := Lib.hid (by rw [hsd.again me sh, if_pos hsd.node])
      have hmay : Hid (mayR s = true) := Lib.hid hsd.may
      have hbel : Hid (belowR a s = true) := Lib.hid hsd.below
      have hsm : Hid (sameR a s = false) := Lib.hid hsd.ne'
      have hse : Hid (tab16 s.e = tab16 a.e) := Lib.hid (by rw [hsd.e])
      have hld : Hid (leaderR a sh = me) := Lib.hid hsd.lead
      replace hsd := Lib.hid hsd
      refine wp_region_N [(0, 1), (1, 1)] (by kernel_rfl) ?_
      refine wpS_this [0, 1] rfl (by kernel_rfl) (by simp only [pickL, nthL, List.cons_append, List.nil_append]; rfl) ?_
      repeat (go_big_quiet_step (fail))
      refine wpQuiet_nil ?_
      refine wpS_nil ?_
      refine then_normal ?_
      refine wp_cond_false rfl ?_
      refine wp_skip ?_
      refine then_normal ?_
      refine wp_seq ?_
      refine wp_seq ?_
      refine wp_region_N [(0, 1), (1, 1), (2, 1), (3, 1), (4, 1), (5, 1)] (by kernel_rfl) ?_
      refine wpS_this [0, 1, 2, 3, 4, 5] rfl (by kernel_rfl) (by simp only [pickL, nthL, List.cons_append, List.nil_append]; rfl) ?_
      repeat (go_big_quiet_step (fail))
      refine wpQuiet_nil ?_
      refine wpS_nil ?_
      refine then_normal ?_
      refine wp_cond_false rfl ?_
      refine wp_skip ?_
      refine then_normal ?_
      refine wp_seq ?_
      by_cases hll : leaderR s sh = me
      · have hag2 : Hid (stageR s me sh = (noR, 9)) := Lib.hid (by rw [hag.out, if_pos hll])
        replace hll := Lib.hid hll
        refine wp_region_N [(0, 1), (1, 1), (2, 1), (3, 3), (4, 1), (5, 1), (6, 1), (7, 3), (8, 3), (9, 1)] (by kernel_rfl) ?_
        refine wpS_loadA (i := 0) (d := some 47) (cells := rgC (s) (.slice ps s.p.2.2.length cs)) rfl (by rfl) rfl rfl (HM24.out.sub 0 rfl (fun k u h => by rw [Nat.zero_add]; exact h)) Try.underlying30 rfl (by kernel_rfl) rfl ?_
        simp only [Act.put, List.setIfInBounds_toArray, List.set_cons_succ, List.set_cons_zero]
        refine wpS_this [1, 2] rfl (by kernel_rfl) (by simp only [pickL, nthL, List.cons_append, List.nil_append]; rfl) ?_
        repeat (go_big_quiet_step (fail))
        refine wpQuiet_nil ?_
        refine wpS_doesU3 (i := 3) (d := some 50) (rem := [_, _, _]) rfl (by rfl) rfl Try.call10 (DoesU.ofList (gstage_d (listT [_, _]) _ s (srcL 0 rfl rowT_reads) ls me _ sh (rowL 1 rfl (srcOld hh).row) lh noR 9 hag2.out)) rfl rfl rfl HM24.out [1, 1] rfl covS_nil (fun _ => rfl) rfl ?_
        rintro u27 W26 hm25 -
        obtain ⟨pz, cz, rfl, hm25q⟩ := Mem.ringE (n := 0) rfl hm25
        clear hm25
        have HM28 := Lib.hid hm25q
        clear hm25q
        simp only [Act.put, List.setIfInBounds_toArray, List.set_cons_succ, List.set_cons_zero]
        refine wpS_this [4, 5, 6] rfl (by kernel_rfl) (by simp only [pickL, nthL, List.cons_append, List.nil_append]; rfl) ?_
        repeat (go_big_quiet_step (fail))
        refine wpQuiet_nil ?_
        refine wpS_alloc (i := 7) (dd := 9) (z := rgV noR (.slice none 0 0)) (cs := (rgC noR (.slice none 0 0)).toArray) rfl (by rfl) rfl (by kernel_rfl) rfl HM28.out covS_nil rfl ?_
        rintro b31 W30 hm29 -
        have HM32 := Lib.hid hm29
        clear hm29
        simp only [Act.put, List.setIfInBounds_toArray, List.set_cons_succ, List.set_cons_zero]
        refine wpS_storeA (i := 8) (L2 := [_, _, _, _, _, _]) (cs' := rgC (noR) (.slice pz 0 cz)) rfl (by rfl) rfl rfl rfl (by kernel_rfl) (rgC_one _ _ _) HM32.out 0 rfl rfl (by kernel_rfl) (by kernel_rfl) covS_nil rfl ?_
        rintro W34 hm33 -
        have HM35 := Lib.hid hm33
        clear hm33
        refine wpS_this [9] rfl (by kernel_rfl) (by simp only [pickL, nthL, List.cons_append, List.nil_append]; rfl) ?_
        repeat (go_big_quiet_step (fail))
        refine wpQuiet_nil ?_
        refine wpS_nil ?_
        refine then_normal ?_
        refine wp_seq ?_
        refine wp_seq ?_
        refine wp_region_N [(0, 1), (1, 3), (2, 1), (3, 1), (4, 1), (5, 1), (6, 3), (7, 1), (8, 1), (9, 1), (10, 1), (11, 1), (12, 3), (13, 1), (14, 1), (15, 1), (16, 1), (17, 1), (18, 1), (19, 1), (20, 1), (21, 1), (22, 1), (23, 1), (24, 3), (25, 1), (26, 1), (27, 1)] (by kernel_rfl) ?_
        refine wpS_loadA (i := 0) (d := some 53) (cells := rgC (s) (.slice ps s.p.2.2.length cs)) rfl (by rfl) rfl rfl (HM35.out.sub 4 rfl (fun k u h => by rw [Nat.zero_add]; exact h)) Try.underlying30 rfl (by kernel_rfl) rfl ?_
        simp only [Act.put, List.setIfInBounds_toArray, List.set_cons_succ, List.set_cons_zero]
        refine wpS_does1 (i := 1) (d := some 54) (rem := [_, _, _, _, _, _]) (out := [_, _, _, _, _, _, _]) rfl (by rfl) rfl Try.call12 (gmay_d (rowT elemI _ _) _ s rowT_reads ls) rfl HM35.out [2] rfl covS_nil rfl rfl ?_
        rintro W37 hm36 -
        rw [hmay.out]
        have HM38 := Lib.hid hm36
        clear hm36
        simp only [Act.put, List.setIfInBounds_toArray, List.set_cons_succ, List.set_cons_zero]
        refine wpS_this [2, 3] rfl (by kernel_rfl) (by simp only [pickL, nthL, List.cons_append, List.nil_append]; rfl) ?_
        repeat (go_big_quiet_step (fail))
        refine wpQuiet_nil ?_
        refine wpS_loadA (i := 4) (d := some 57) (cells := rgC (a) (.slice pa a.p.2.2.length ca)) rfl (by rfl) rfl rfl (HM38.out.sub 6 rfl (fun k u h => by rw [Nat.zero_add]; exact h)) Try.underlying30 rfl (by kernel_rfl) rfl ?_
        simp only [Act.put, List.setIfInBounds_toArray, List.set_cons_succ, List.set_cons_zero]
        refine wpS_loadA (i := 5) (d := some 58) (cells := rgC (s) (.slice ps s.p.2.2.length cs)) rfl (by rfl) rfl rfl (HM38.out.sub 4 rfl (fun k u h => by rw [Nat.zero_add]; exact h)) Try.underlying30 rfl (by kernel_rfl) rfl ?_
        simp only [Act.put, List.setIfInBounds_toArray, List.set_cons_succ, List.set_cons_zero]
        refine wpS_does2 (i := 6) (d := some 59) (rem := [_, _, _, _, _]) (out := [_, _, _, _, _, _, _]) rfl (by rfl) rfl Try.call13 (Does.ofList (gbelow_d (listT [_, _]) _ a (srcL 1 rfl (srcOld ha)) la _ s (srcL 0 rfl rowT_reads) ls)) rfl rfl HM38.out [0, 2] rfl covS_nil rfl rfl ?_
        rintro W40 hm39 -
        rw [hbel.out]
        have HM41 := Lib.hid hm39
        clear hm39
        simp only [Act.put, List.setIfInBounds_toArray, List.set_cons_succ, List.set_cons_zero]
        refine wpS_this [7, 8, 9] rfl (by kernel_rfl) (by simp only [pickL, nthL, List.cons_append, List.nil_append]; rfl) ?_
        repeat (go_big_quiet_step (fail))
        refine wpQuiet_nil ?_
        refine wpS_loadA (i := 10) (d := some 63) (cells := rgC (a) (.slice pa a.p.2.2.length ca)) rfl (by rfl) rfl rfl (HM41.out.sub 6 rfl (fun k u h => by rw [Nat.zero_add]; exact h)) Try.underlying30 rfl (by kernel_rfl) rfl ?_
        simp only [Act.put, List.setIfInBounds_toArray, List.set_cons_succ, List.set_cons_zero]
        refine wpS_loadA (i := 11) (d := some 64) (cells := rgC (s) (.slice ps s.p.2.2.length cs)) rfl (by rfl) rfl rfl (HM41.out.sub 4 rfl (fun k u h => by rw [Nat.zero_add]; exact h)) Try.underlying30 rfl (by kernel_rfl) rfl ?_
        simp only [Act.put, List.setIfInBounds_toArray, List.set_cons_succ, List.set_cons_zero]
        refine wpS_does2 (i := 12) (d := some 65) (rem := [_, _, _, _, _]) (out := [_, _, _, _, _, _, _]) rfl (by rfl) rfl Try.call11 (Does.ofList (gsame_d (listT [_, _]) _ a (srcL 1 rfl (srcOld ha)) la _ s (srcL 0 rfl rowT_reads) ls)) rfl rfl HM41.out [0, 0] rfl covS_nil rfl rfl ?_
        rintro W43 hm42 -
        rw [hsm.out]
        have HM44 := Lib.hid hm42
        clear hm42
        simp only [Act.put, List.setIfInBounds_toArray, List.set_cons_succ, List.set_cons_zero]
        refine wpS_this [13, 14, 15] rfl (by kernel_rfl) (by simp only [pickL, nthL, List.cons_append, List.nil_append]; rfl) ?_
        repeat (go_big_quiet_step (fail))
        refine wpQuiet_nil ?_
        refine wpS_loadA (i := 16) (d := some 69) (cells := enC (s).e) rfl (by rfl) rfl rfl (HM44.out.sub 4 rfl (rgC_en)) Try.underlying28 rfl (by kernel_rfl) rfl ?_
        simp only [Act.put, List.setIfInBounds_toArray, List.set_cons_succ, List.set_cons_zero]
        refine wpS_this [17] rfl (by kernel_rfl) (by simp only [pickL, nthL, List.cons_append, List.nil_append]; rfl) ?_
        repeat (go_big_quiet_step (fail))
        refine wpQuiet_nil ?_
        refine wpS_loadA (i := 18) (d := some 71) (cells := enC (a).e) rfl (by rfl) rfl rfl (HM44.out.sub 6 rfl (rgC_en)) Try.underlying28 rfl (by kernel_rfl) rfl ?_
        simp only [Act.put, List.setIfInBounds_toArray, List.set_cons_succ, List.set_cons_zero]
        refine wpS_read (i := 19) (d := some 72) rfl (by rfl) (run_neqEn (b := false) (by rw [hse.out]; simp) rfl rfl rfl) rfl ?_
        simp only [Act.put, List.setIfInBounds_toArray, List.set_cons_succ, List.set_cons_zero]
        refine wpS_this [20, 21] rfl (by kernel_rfl) (by simp only [pickL, nthL, List.cons_append, List.nil_append]; rfl) ?_
        repeat (go_big_quiet_step (fail))
        refine wpQuiet_nil ?_
        refine wpS_loadA (i := 22) (d := some 75) (cells := rgC (a) (.slice pa a.p.2.2.length ca)) rfl (by rfl) rfl rfl (HM44.out.sub 6 rfl (fun k u h => by rw [Nat.zero_add]; exact h)) Try.underlying30 rfl (by kernel_rfl) rfl ?_
        simp only [Act.put, List.setIfInBounds_toArray, List.set_cons_succ, List.set_cons_zero]
        refine wpS_this [23] rfl (by kernel_rfl) (by simp only [pickL, nthL, List.cons_append, List.nil_append]; rfl) ?_
        repeat (go_big_quiet_step (fail))
        refine wpQuiet_nil ?_
        refine wpS_does2 (i := 24) (d := some 77) (rem := [_, _, _, _, _, _]) (out := [_, _, _, _, _, _, _]) rfl (by rfl) rfl Try.call14 (gleader_d (oldT W0) _ a (srcOld ha) la _ sh (srcOld hh).row lh) rfl rfl HM44.out [1] rfl covS_nil rfl rfl ?_
        rintro W46 hm45 -
        rw [hld.out]
        have HM47 := Lib.hid hm45
        clear hm45
        simp only [Act.put, List.setIfInBounds_toArray, List.set_cons_succ, List.set_cons_zero]
        refine wpS_this [25, 26, 27] rfl (by kernel_rfl) (by simp only [pickL, nthL, List.cons_append, List.nil_append]; rfl) ?_
        repeat (go_big_quiet_step (fail))
        refine wpQuiet_nil ?_
        refine wpS_nil ?_
        refine then_normal ?_
        refine wp_cond_false rfl ?_
        refine wp_skip ?_
        refine then_normal ?_
        refine wp_seq ?_
        refine wp_seq ?_
        refine wp_region_N [(0, 1), (1, 1), (2, 1), (3, 1), (4, 1), (5, 1), (6, 1), (7, 1), (8, 3), (9, 1), (10, 1), (11, 1), (12, 1), (13, 1)] (by kernel_rfl) ?_
        refine wpS_this [0, 1, 2, 3, 4, 5] rfl (by kernel_rfl) (by simp only [pickL, nthL, List.cons_append, List.nil_append]; rfl) ?_
        repeat (go_big_quiet_step (fail))
        refine wpQuiet_nil ?_
        refine wpS_skip (i := 6) (d := some 87) rfl (by rfl) rfl ?_
        simp only [Act.put, List.setIfInBounds_toArray, List.set_cons_succ, List.set_cons_zero]
        refine wpS_this [7] rfl (by kernel_rfl) (by simp only [pickL, nthL, List.cons_append, List.nil_append]; rfl) ?_
        repeat (go_big_quiet_step (fail))
        refine wpQuiet_nil ?_
        refine wpS_skip (i := 8) (d := some 89) rfl (by rfl) rfl ?_
        simp only [Act.put, List.setIfInBounds_toArray, List.set_cons_succ, List.set_cons_zero]
        refine wpS_this [9, 10, 11, 12, 13] rfl (by kernel_rfl) (by simp only [pickL, nthL, List.cons_append, List.nil_append]; rfl) ?_
        repeat (go_big_quiet_step (fail))
        refine wpQuiet_nil ?_
        refine wpS_nil ?_
        refine then_normal ?_
        refine wp_cond_false rfl ?_
        refine wp_skip ?_
        refine then_normal ?_
        refine wp_seq ?_
        obtain ⟨M, hM'⟩ : ∃ y, ofR a 1 2 = y := ⟨_, rfl⟩
        have hMl : M.length ≤ 8 := by rw [← hM']; exact ofR_le a 1 2
        have hM := Lib.hid hM'
        clear hM'
        refine wp_region_N [(0, 1), (1, 3), (2, 1)] (by kernel_rfl) ?_
        refine wpS_loadA (i := 0) (d := some 95) (cells := rgC (a) (.slice pa a.p.2.2.length ca)) rfl (by rfl) rfl rfl (HM47.out.sub 6 rfl (fun k u h => by rw [Nat.zero_add]; exact h)) Try.underlying30 rfl (by kernel_rfl) rfl ?_
        simp only [Act.put, List.setIfInBounds_toArray, List.set_cons_succ, List.set_cons_zero]
        refine wpS_doesU3 (i := 1) (d := some 96) (rem := [_, _, _, _, _, _]) rfl (by rfl) rfl Try.call15 (gof_d (oldT W0) _ a (srcOld ha) la 1 2) rfl rfl rfl HM47.out [0] rfl covS_nil (fun _ => rfl) rfl ?_
        rintro u50 W49 hm48 -
        rw [hM.out] at hm48
        obtain ⟨pM, cM, rfl⟩ := row_form (Mem.src hm48 0 rfl rowT_reads)
        have HM51 := Lib.hid hm48
        clear hm48
        simp only [Act.put, List.setIfInBounds_toArray, List.set_cons_succ, List.set_cons_zero]
        refine wpS_this [2] rfl (by kernel_rfl) (by simp only [pickL, nthL, List.cons_append, List.nil_append]; rfl) ?_
        repeat (go_big_quiet_step (fail))
        refine wpQuiet_nil ?_
        refine wpS_nil ?_
        refine then_normal ?_
        refine wp_seq ?_
        refine wp_seq ?_
        by_cases h0 : M = []
        · have g1 : ((M.length : Int) == 0) = true := beq_iff_eq.2 (by rw [h0]; rfl)
          replace h0 := Lib.hid h0
          refine wp_region_N [(0, 1), (1, 1), (2, 1)] (by kernel_rfl) ?_
          refine wpS_this [0, 1, 2] rfl (by kernel_rfl) (by simp only [pickL, nthL, List.cons_append, List.nil_append]; rfl) ?_
          repeat (go_big_quiet_step (fail))
          refine wpQuiet_nil ?_
          refine wpS_nil ?_
          refine then_normal ?_
          refine wp_cond_true rfl ?_
          refine wp_seq ?_
          refine wp_region_N [(0, 3), (1, 1)] (by kernel_rfl) ?_
          refine wpS_does0 (i := 0) (d := some 100) (rem := [_, _, _, _, _, _, _, _]) (out := [_, _, _, _, _, _, _, _]) rfl (by rfl) rfl Try.call9 (lawake_d)  HM51.out [] rfl covS_nil rfl rfl ?_
          rintro W53 hm52 -
          have HM54 := Lib.hid hm52
          clear hm52
          simp only [Act.put, List.setIfInBounds_toArray, List.set_cons_succ, List.set_cons_zero]
          refine wpS_this [1] rfl (by kernel_rfl) (by simp only [pickL, nthL, List.cons_append, List.nil_append]; rfl) ?_
          repeat (go_big_quiet_step (fail))
          refine wpQuiet_nil ?_
          refine wpS_nil ?_
          refine then_normal ?_
          refine wp_ret ?_
          refine then_ret ?_
          refine bodyPost_ret (results_tmp rfl _ _ _) rfl ?_
          exact does_ret (Mem.only (M := [_]) HM54.out [1] rfl) rfl rfl
        · have g1 : ((M.length : Int) == 0) = false := beq_eq_false_iff_ne.2 (fun e => h0 (List.eq_nil_of_length_eq_zero (by omega)))
          replace h0 := Lib.hid h0
          have hM0 : Hid (ofR a 1 2 ≠ []) := Lib.hid (by rw [hM.out]; exact h0.out)
          refine wp_region_N [(0, 1), (1, 1), (2, 1)] (by kernel_rfl) ?_
          refine wpS_this [0, 1, 2] rfl (by kernel_rfl) (by simp only [pickL, nthL, List.cons_append, List.nil_append]; rfl) ?_
          repeat (go_big_quiet_step (fail))
          refine wpQuiet_nil ?_
          refine wpS_nil ?_
          refine then_normal ?_
          refine wp_cond_false rfl ?_
          refine wp_skip ?_
          refine then_normal ?_
          refine wp_seq ?_
          refine wp_region_N [(0, 1)] (by kernel_rfl) ?_
          refine wpS_this [0] rfl (by kernel_rfl) (by simp only [pickL, nthL, List.cons_append, List.nil_append]; rfl) ?_
          repeat (go_big_quiet_step (fail))
          refine wpQuiet_nil ?_
          refine wpS_nil ?_
          refine then_normal ?_
          refine wp_seq ?_
          refine wp_seq ?_
          refine wp_region_N [(0, 1)] (by kernel_rfl) ?_
          refine wpS_this [0] rfl (by kernel_rfl) (by simp only [pickL, nthL, List.cons_append, List.nil_append]; rfl) ?_
          repeat (go_big_quiet_step (fail))
          refine wpQuiet_nil ?_
          refine wpS_nil ?_
          refine then_normal ?_
          refine wp_block ?_
          refine wp_loop_F [6, 12, 13, 14, 101, 102, 103, 104, 105, 106, 107, 108, 109, 110, 111, 112, 113, 114, 115, 116, 117, 118, 119, 120, 121, 122, 123, 124, 125, 126, 127] (fun n vs W' => ∃ (k : Nat) (u : Value), n = 16 - k ∧ vs 101 = .int .i64 (k : Int) ∧ vs 12 = u ∧ k ≤ 16 ∧ Mem [rowT elemI u ((targetsL s).take k), boxT b20 (.cells (rgC s (.slice ps s.p.2.2.length cs)).toArray 30 (0, 0)), rowT elemI (.slice ps s.p.2.2.length cs) s.p.2.2, rowT elemI (.slice pM M.length cM) M, oldT W0] H w W') (n0 := 16) ?_ ?_
          · exact ⟨0, _, rfl, rfl, rfl, Nat.zero_le _, Mem.nilRow elemI (Mem.only (M := [_, _, _, _]) HM51.out [5, 2, 0, 0] rfl)⟩
          rintro n vs W' ⟨k, u, rfl, e101, e12, hk, hm⟩
          simp only [putAll, List.map_cons, List.map_nil, Act.put, List.setIfInBounds_toArray, List.set_cons_succ, List.set_cons_zero]
          rw [e101, e12]
          clear e101 e12
          have HM55 := Lib.hid hm
          clear hm
          refine wp_seq ?_
          refine wp_region_N [(0, 1)] (by kernel_rfl) ?_
          refine wpS_this [0] rfl (by kernel_rfl) (by simp only [pickL, nthL, List.cons_append, List.nil_append]; rfl) ?_
          repeat (go_big_quiet_step (fail))
          refine wpQuiet_nil ?_
          refine wpS_nil ?_
          refine then_normal ?_
          refine wp_seq ?_
          refine wp_cond_split rfl (fun h56 => ?_) (fun h56 => ?_)
          · have hk1 : k + 1 ≤ 16 := by have : (k : Int) < 16 := (by simpa using h56); omega
            clear h56
            refine wp_skip ?_
            refine then_normal ?_
            refine wp_seq ?_
            refine wp_block ?_
            refine wp_seq ?_
            refine wp_region_N [(0, 1), (1, 1)] (by kernel_rfl) ?_
            refine wpS_this [0, 1] rfl (by kernel_rfl) (by simp only [pickL, nthL, List.cons_append, List.nil_append]; rfl) ?_
            repeat (go_big_quiet_step (fail))
            refine wpQuiet_nil ?_
            refine wpS_nil ?_
            refine then_normal ?_
            refine wp_seq ?_
            obtain ⟨t, htk', ht8, hts⟩ := hsd.out.target hM0.out (show k < 16 by omega)
            have gt2 : (s.s t != 2) = false := by rw [bne_eq_false_iff_eq]; exact hts
            clear hts
            have gt0 : decide ((t : Int) < 0) = false := decide_eq_false (by omega)
            have gt8 : decide ((8 : Int) ≤ (t : Int)) = false := decide_eq_false (by omega)
            have gt8n : decide (8 ≤ t) = false := decide_eq_false (by omega)
            have htt : Hid (((targetsL s).take (k + 1))[k]? = some (t : Int)) := Lib.hid (by rw [List.getElem?_take, if_pos (Nat.lt_succ_self k), targetsL_at s (show k < 16 by omega), htk'])
            have htw : Hid ((targetsL s).take k ++ [(t : Int)] = (targetsL s).take (k + 1)) := Lib.hid (by rw [List.take_add_one, targetsL_at s (show k < 16 by omega), htk']; rfl)
            have htk := Lib.hid htk'
            clear htk'
            refine wp_region_N [(0, 1), (1, 1), (2, 1), (3, 3), (4, 3), (5, 3), (6, 1)] (by kernel_rfl) ?_
            refine wpS_this [0] rfl (by kernel_rfl) (by simp only [pickL, nthL, List.cons_append, List.nil_append]; rfl) ?_
            repeat (go_big_quiet_step (fail))
            refine wpQuiet_nil ?_
            refine wpS_loadA (i := 1) (d := some 105) (cells := rgC (s) (.slice ps s.p.2.2.length cs)) rfl (by rfl) rfl rfl (HM55.out.sub 1 rfl (fun k u h => by rw [Nat.zero_add]; exact h)) Try.underlying30 rfl (by kernel_rfl) rfl ?_
            simp only [Act.put, List.setIfInBounds_toArray, List.set_cons_succ, List.set_cons_zero]
            refine wpS_this [2] rfl (by kernel_rfl) (by simp only [pickL, nthL, List.cons_append, List.nil_append]; rfl) ?_
            repeat (go_big_quiet_step (fail))
            refine wpQuiet_nil ?_
            refine wpS_does2 (i := 3) (d := some 107) (rem := [_, _, _, _]) (out := [_, _, _, _, _]) rfl (by rfl) rfl Try.call16 (gtarget_d (rowT elemI _ _) _ s rowT_reads ls (k : Int)) rfl rfl HM55.out [2] rfl covS_nil rfl rfl ?_
            rintro W58 hm57 -
            rw [htk.out]
            have HM59 := Lib.hid hm57
            clear hm57
            simp only [Act.put, List.setIfInBounds_toArray, List.set_cons_succ, List.set_cons_zero]
            refine wpS_build1 elemI (i := 4) (dd := 108) (y := (t : Int)) rfl (by rfl) rfl rfl rfl (by decide) HM59.out covS_nil rfl ?_
            rintro b62 W63 hm64 -
            have HM65 := Lib.hid hm64
            clear hm64
            simp only [Act.put, List.setIfInBounds_toArray, List.set_cons_succ, List.set_cons_zero]
            refine wpS_append (E := elemI) (i := 5) (d := some 109) (L2 := [_, _, _, _, _]) rfl (by rfl) rfl HM65.out 2 rfl rfl ((HM65.out.src 0 rfl rowT_reads)) rfl (by simp only [List.length_cons, List.length_nil, List.length_take]; show _ * 8 ≤ _; omega) rfl covS_nil rfl ?_
            rintro u68 W69 hm70 -
            obtain ⟨u68p, u68c, rfl⟩ := row_form (Mem.src hm70 0 rfl rowT_reads)
            have HM71 := Lib.hid hm70
            clear hm70
            simp only [Act.put, List.setIfInBounds_toArray, List.set_cons_succ, List.set_cons_zero]
            refine wpS_this [6] rfl (by kernel_rfl) (by simp only [pickL, nthL, List.cons_append, List.nil_append]; rfl) ?_
            repeat (go_big_quiet_step (fail))
            refine wpQuiet_nil ?_
            refine wpS_nil ?_
            refine then_normal ?_
            refine wp_seq ?_
            have HM71w := HM71.out
            rw [htw.out] at HM71w ⊢
            replace HM71 := Lib.hid HM71w
            clear HM71w
            refine wp_region_N [(0, 1), (1, 1), (2, 1), (3, 1), (4, 1)] (by kernel_rfl) ?_
            refine wpS_this [0, 1] rfl (by kernel_rfl) (by simp only [pickL, nthL, List.cons_append, List.nil_append]; rfl) ?_
            repeat (go_big_quiet_step (fail))
            refine wpQuiet_nil ?_
            refine wpS_index (E := elemI) (i := 2) (d := some 112) rfl (by rfl) rfl rfl rfl (HM71.out.row 0 rfl rowOwn) (htt.out) rfl ?_
            intro eb72 eo73 hc74
            simp only [Act.put, List.setIfInBounds_toArray, List.set_cons_succ, List.set_cons_zero]
            refine wpS_load1 (i := 3) (d := some 113) (u := .int .i64 (t : Int)) rfl (by rfl) rfl rfl (hc74 0 _ rfl) Try.underlying3 rfl rfl ?_
            simp only [Act.put, List.setIfInBounds_toArray, List.set_cons_succ, List.set_cons_zero]
            refine wpS_this [4] rfl (by kernel_rfl) (by simp only [pickL, nthL, List.cons_append, List.nil_append]; rfl) ?_
            repeat (go_big_quiet_step (fail))
            refine wpQuiet_nil ?_
            refine wpS_nil ?_
            refine then_normal ?_
            refine wp_seq ?_
            refine wp_region_N [(0, 1), (1, 1), (2, 1), (3, 1), (4, 1), (5, 1), (6, 1), (7, 1), (8, 1), (9, 1), (10, 1), (11, 1), (12, 1)] (by kernel_rfl) ?_
            refine wpS_this [0, 1, 2, 3, 4, 5, 6, 7, 8] rfl (by kernel_rfl) (by simp only [pickL, nthL, List.cons_append, List.nil_append]; rfl) ?_
            repeat (go_big_quiet_step (fail))
            refine wpQuiet_nil ?_
            refine wpS_read (i := 9) (d := some 123) rfl (by rfl) (run_addrSt (ht8) rfl rfl rfl) rfl ?_
            simp only [Act.put, List.setIfInBounds_toArray, List.set_cons_succ, List.set_cons_zero]
            refine wpS_load1 (i := 10) (d := some 124) (u := _) rfl (by rfl) rfl rfl (HM71.out.sub1 3 rfl (rgC_s (ht8))) Try.underlying3 rfl rfl ?_
            simp only [Act.put, List.setIfInBounds_toArray, List.set_cons_succ, List.set_cons_zero]
            refine wpS_this [11, 12] rfl (by kernel_rfl) (by simp only [pickL, nthL, List.cons_append, List.nil_append]; rfl) ?_
            repeat (go_big_quiet_step (fail))
            refine wpQuiet_nil ?_
            refine wpS_nil ?_
            refine then_normal ?_
            refine wp_cond_false rfl ?_
            refine wp_skip ?_
            refine block_normal ?_
            refine then_normal ?_
            refine wp_region_N [(0, 1), (1, 1)] (by kernel_rfl) ?_
            refine wpS_this [0, 1] rfl (by kernel_rfl) (by simp only [pickL, nthL, List.cons_append, List.nil_append]; rfl) ?_
            repeat (go_big_quiet_step (fail))
            refine wpQuiet_nil ?_
            refine wpS_nil ?_
            refine then_normal ?_
            refine ⟨by kernel_rfl, ?_⟩
            refine ⟨16 - (k + 1), by omega, k + 1, _, rfl, rfl, rfl, hk1, (Mem.only (M := [_, _, _, _, _]) HM71.out [0, 2, 1, 1, 1] rfl)⟩
          · have hk16 : Hid (16 ≤ k) := Lib.hid (by have : ¬ (k : Int) < 16 := (by simpa using h56); omega)
            clear h56
            refine wp_exit ?_
            refine then_exit (then_exit (block_exit ?_))
            refine then_normal ?_
            refine wp_seq ?_
            have HM55w := HM55.out
            rw [List.take_of_length_le (by rw [targetsL_len]; have := hk16.out; omega)] at HM55w
            replace HM55 := Lib.hid HM55w
            clear HM55w
            have hev : Hid (assignOf (targetsL s) (peersOf M (-1)) = targetsL s) := Lib.hid (by rw [← hM.out, ofR_peers]; exact hsd.out.even hM0.out)
            have hjn : Hid (ofR s 1 1 = []) := Lib.hid hsd.out.joined
            refine wp_region_N [(0, 1), (1, 1), (2, 3), (3, 1), (4, 3), (5, 1), (6, 1), (7, 1), (8, 3), (9, 1), (10, 1), (11, 1), (12, 1), (13, 3), (14, 1), (15, 1)] (by kernel_rfl) ?_
            refine wpS_this [0, 1] rfl (by kernel_rfl) (by simp only [pickL, nthL, List.cons_append, List.nil_append]; rfl) ?_
            repeat (go_big_quiet_step (fail))
            refine wpQuiet_nil ?_
            refine wpS_doesU2 (i := 2) (d := some 130) (rem := [_, _, _]) rfl (by rfl) rfl Try.call18 (DoesU.ofList (assign_d (listT [_, _]) _ _ (targetsL s) M (rowL 0 rfl rowOwn) (rowL 1 rfl rowOwn) (by omega))) rfl rfl HM55.out [0, 2] rfl covS_nil (fun _ => rfl) rfl ?_
            rintro u77 W76 hm75 -
            rw [hev.out] at hm75
            obtain ⟨pt, ct, rfl⟩ := row_form (Mem.src hm75 0 rfl rdRow_src)
            have HM78 := Lib.hid hm75
            clear hm75
            simp only [Act.put, List.setIfInBounds_toArray, List.set_cons_succ, List.set_cons_zero]
            refine wpS_this [3] rfl (by kernel_rfl) (by simp only [pickL, nthL, List.cons_append, List.nil_append]; rfl) ?_
            repeat (go_big_quiet_step (fail))
            refine wpQuiet_nil ?_
            refine wpS_does2 (i := 4) (d := some 132) (rem := [_, _, _, _]) (out := [_, _, _, _, _, _]) rfl (by rfl) rfl Try.call17 (Does.ofList (moves_d (listT [_, _]) _ _ (targetsL s) (targetsL s) (rowL 0 rfl rdRow_reads) (rowL 1 rfl rowOwn))) rfl rfl HM78.out [0, 0] rfl covS_nil rfl rfl ?_
            rintro W80 hm79 -
            rw [moves_self]
            have HM81 := Lib.hid hm79
            clear hm79
            simp only [Act.put, List.setIfInBounds_toArray, List.set_cons_succ, List.set_cons_zero]
            refine wpS_this [5, 6] rfl (by kernel_rfl) (by simp only [pickL, nthL, List.cons_append, List.nil_append]; rfl) ?_
            repeat (go_big_quiet_step (fail))
            refine wpQuiet_nil ?_
            refine wpS_loadA (i := 7) (d := some 135) (cells := rgC (s) (.slice ps s.p.2.2.length cs)) rfl (by rfl) rfl rfl (HM81.out.sub 3 rfl (fun k u h => by rw [Nat.zero_add]; exact h)) Try.underlying30 rfl (by kernel_rfl) rfl ?_
            simp only [Act.put, List.setIfInBounds_toArray, List.set_cons_succ, List.set_cons_zero]
            refine wpS_doesU3 (i := 8) (d := some 136) (rem := [_, _, _, _, _]) rfl (by rfl) rfl Try.call15 (gof_d (rowT elemI _ _) _ s rowT_reads ls 1 1) rfl rfl rfl HM81.out [4] rfl covS_nil (fun _ => rfl) rfl ?_
            rintro u84 W83 hm82 -
            rw [hjn.out] at hm82
            obtain ⟨pJ, cJ, rfl⟩ := row_form0 (Mem.src hm82 0 rfl rowT_reads)
            have HM85 := Lib.hid hm82
            clear hm82
            simp only [Act.put, List.setIfInBounds_toArray, List.set_cons_succ, List.set_cons_zero]
            refine wpS_this [9, 10, 11, 12] rfl (by kernel_rfl) (by simp only [pickL, nthL, List.cons_append, List.nil_append]; rfl) ?_
            repeat (go_big_quiet_step (fail))
            refine wpQuiet_nil ?_
            refine wpS_does0 (i := 13) (d := some 141) (rem := [_, _, _, _, _, _, _]) (out := [_, _, _, _, _, _, _]) rfl (by rfl) rfl Try.call9 (lawake_d)  HM85.out [] rfl covS_nil rfl rfl ?_
            rintro W87 hm86 -
            have HM88 := Lib.hid hm86
            clear hm86
            simp only [Act.put, List.setIfInBounds_toArray, List.set_cons_succ, List.set_cons_zero]
            refine wpS_this [14, 15] rfl (by kernel_rfl) (by simp only [pickL, nthL, List.cons_append, List.nil_append]; rfl) ?_
            repeat (go_big_quiet_step (fail))
            refine wpQuiet_nil ?_
            refine wpS_nil ?_
            refine then_normal ?_
            refine wp_ret ?_
            refine bodyPost_ret (results_tmp rfl _ _ _) rfl ?_
            exact does_ret (Mem.only (M := [_]) HM88.out [6] rfl) rfl rfl
      · have hag2 : Hid (stageR s me sh = (noR, 10)) := Lib.hid (by rw [hag.out, if_neg hll])
        obtain ⟨y, hy'⟩ := int_letter (leaderR s sh)
        rw [hy'] at hll
        have gy : (y != me) = true := bne_iff_ne.2 hll
        clear hll
        have hy := Lib.hid hy'
        clear hy'
        refine wp_region_N [(0, 1), (1, 1), (2, 1), (3, 3), (4, 1), (5, 1), (6, 1), (7, 3), (8, 3), (9, 1)] (by kernel_rfl) ?_
        refine wpS_loadA (i := 0) (d := some 47) (cells := rgC (s) (.slice ps s.p.2.2.length cs)) rfl (by rfl) rfl rfl (HM24.out.sub 0 rfl (fun k u h => by rw [Nat.zero_add]; exact h)) Try.underlying30 rfl (by kernel_rfl) rfl ?_
        simp only [Act.put, List.setIfInBounds_toArray, List.set_cons_succ, List.set_cons_zero]
        refine wpS_this [1, 2] rfl (by kernel_rfl) (by simp only [pickL, nthL, List.cons_append, List.nil_append]; rfl) ?_
        repeat (go_big_quiet_step (fail))
        refine wpQuiet_nil ?_
        refine wpS_doesU3 (i := 3) (d := some 50) (rem := [_, _, _]) rfl (by rfl) rfl Try.call10 (DoesU.ofList (gstage_d (listT [_, _]) _ s (srcL 0 rfl rowT_reads) ls me _ sh (rowL 1 rfl (srcOld hh).row) lh noR 10 hag2.out)) rfl rfl rfl HM24.out [1, 1] rfl covS_nil (fun _ => rfl) rfl ?_
        rintro u91 W90 hm89 -
        obtain ⟨pz, cz, rfl, hm89q⟩ := Mem.ringE (n := 0) rfl hm89
        clear hm89
        have HM92 := Lib.hid hm89q
        clear hm89q
        simp only [Act.put, List.setIfInBounds_toArray, List.set_cons_succ, List.set_cons_zero]
        refine wpS_this [4, 5, 6] rfl (by kernel_rfl) (by simp only [pickL, nthL, List.cons_append, List.nil_append]; rfl) ?_
        repeat (go_big_quiet_step (fail))
        refine wpQuiet_nil ?_
        refine wpS_alloc (i := 7) (dd := 9) (z := rgV noR (.slice none 0 0)) (cs := (rgC noR (.slice none 0 0)).toArray) rfl (by rfl) rfl (by kernel_rfl) rfl HM92.out covS_nil rfl ?_
        rintro b95 W94 hm93 -
        have HM96 := Lib.hid hm93
        clear hm93
        simp only [Act.put, List.setIfInBounds_toArray, List.set_cons_succ, List.set_cons_zero]
        refine wpS_storeA (i := 8) (L2 := [_, _, _, _, _, _]) (cs' := rgC (noR) (.slice pz 0 cz)) rfl (by rfl) rfl rfl rfl (by kernel_rfl) (rgC_one _ _ _) HM96.out 0 rfl rfl (by kernel_rfl) (by kernel_rfl) covS_nil rfl ?_
        rintro W98 hm97 -
        have HM99 := Lib.hid hm97
        clear hm97
        refine wpS_this [9] rfl (by kernel_rfl) (by simp only [pickL, nthL, List.cons_append, List.nil_append]; rfl) ?_
        repeat (go_big_quiet_step (fail))
        refine wpQuiet_nil ?_
        refine wpS_nil ?_
        refine then_normal ?_
        refine wp_seq ?_
        refine wp_seq ?_
        refine wp_region_N [(0, 1), (1, 3), (2, 1), (3, 1), (4, 1), (5, 1), (6, 3), (7, 1), (8, 1), (9, 1), (10, 1), (11, 1), (12, 3), (13, 1), (14, 1), (15, 1), (16, 1), (17, 1), (18, 1), (19, 1), (20, 1), (21, 1), (22, 1), (23, 1), (24, 3), (25, 1), (26, 1), (27, 1)] (by kernel_rfl) ?_
        refine wpS_loadA (i := 0) (d := some 53) (cells := rgC (s) (.slice ps s.p.2.2.length cs)) rfl (by rfl) rfl rfl (HM99.out.sub 4 rfl (fun k u h => by rw [Nat.zero_add]; exact h)) Try.underlying30 rfl (by kernel_rfl) rfl ?_
        simp only [Act.put, List.setIfInBounds_toArray, List.set_cons_succ, List.set_cons_zero]
        refine wpS_does1 (i := 1) (d := some 54) (rem := [_, _, _, _, _, _]) (out := [_, _, _, _, _, _, _]) rfl (by rfl) rfl Try.call12 (gmay_d (rowT elemI _ _) _ s rowT_reads ls) rfl HM99.out [2] rfl covS_nil rfl rfl ?_
        rintro W101 hm100 -
        rw [hmay.out]
        have HM102 := Lib.hid hm100
        clear hm100
        simp only [Act.put, List.setIfInBounds_toArray, List.set_cons_succ, List.set_cons_zero]
        refine wpS_this [2, 3] rfl (by kernel_rfl) (by simp only [pickL, nthL, List.cons_append, List.nil_append]; rfl) ?_
        repeat (go_big_quiet_step (fail))
        refine wpQuiet_nil ?_
        refine wpS_loadA (i := 4) (d := some 57) (cells := rgC (a) (.slice pa a.p.2.2.length ca)) rfl (by rfl) rfl rfl (HM102.out.sub 6 rfl (fun k u h => by rw [Nat.zero_add]; exact h)) Try.underlying30 rfl (by kernel_rfl) rfl ?_
        simp only [Act.put, List.setIfInBounds_toArray, List.set_cons_succ, List.set_cons_zero]
        refine wpS_loadA (i := 5) (d := some 58) (cells := rgC (s) (.slice ps s.p.2.2.length cs)) rfl (by rfl) rfl rfl (HM102.out.sub 4 rfl (fun k u h => by rw [Nat.zero_add]; exact h)) Try.underlying30 rfl (by kernel_rfl) rfl ?_
        simp only [Act.put, List.setIfInBounds_toArray, List.set_cons_succ, List.set_cons_zero]
        refine wpS_does2 (i := 6) (d := some 59) (rem := [_, _, _, _, _]) (out := [_, _, _, _, _, _, _]) rfl (by rfl) rfl Try.call13 (Does.ofList (gbelow_d (listT [_, _]) _ a (srcL 1 rfl (srcOld ha)) la _ s (srcL 0 rfl rowT_reads) ls)) rfl rfl HM102.out [0, 2] rfl covS_nil rfl rfl ?_
        rintro W104 hm103 -
        rw [hbel.out]
        have HM105 := Lib.hid hm103
        clear hm103
        simp only [Act.put, List.setIfInBounds_toArray, List.set_cons_succ, List.set_cons_zero]
        refine wpS_this [7, 8, 9] rfl (by kernel_rfl) (by simp only [pickL, nthL, List.cons_append, List.nil_append]; rfl) ?_
        repeat (go_big_quiet_step (fail))
        refine wpQuiet_nil ?_
        refine wpS_loadA (i := 10) (d := some 63) (cells := rgC (a) (.slice pa a.p.2.2.length ca)) rfl (by rfl) rfl rfl (HM105.out.sub 6 rfl (fun k u h => by rw [Nat.zero_add]; exact h)) Try.underlying30 rfl (by kernel_rfl) rfl ?_
        simp only [Act.put, List.setIfInBounds_toArray, List.set_cons_succ, List.set_cons_zero]
        refine wpS_loadA (i := 11) (d := some 64) (cells := rgC (s) (.slice ps s.p.2.2.length cs)) rfl (by rfl) rfl rfl (HM105.out.sub 4 rfl (fun k u h => by rw [Nat.zero_add]; exact h)) Try.underlying30 rfl (by kernel_rfl) rfl ?_
        simp only [Act.put, List.setIfInBounds_toArray, List.set_cons_succ, List.set_cons_zero]
        refine wpS_does2 (i := 12) (d := some 65) (rem := [_, _, _, _, _]) (out := [_, _, _, _, _, _, _]) rfl (by rfl) rfl Try.call11 (Does.ofList (gsame_d (listT [_, _]) _ a (srcL 1 rfl (srcOld ha)) la _ s (srcL 0 rfl rowT_reads) ls)) rfl rfl HM105.out [0, 0] rfl covS_nil rfl rfl ?_
        rintro W107 hm106 -
        rw [hsm.out]
        have HM108 := Lib.hid hm106
        clear hm106
        simp only [Act.put, List.setIfInBounds_toArray, List.set_cons_succ, List.set_cons_zero]
        refine wpS_this [13, 14, 15] rfl (by kernel_rfl) (by simp only [pickL, nthL, List.cons_append, List.nil_append]; rfl) ?_
        repeat (go_big_quiet_step (fail))
        refine wpQuiet_nil ?_
        refine wpS_loadA (i := 16) (d := some 69) (cells := enC (s).e) rfl (by rfl) rfl rfl (HM108.out.sub 4 rfl (rgC_en)) Try.underlying28 rfl (by kernel_rfl) rfl ?_
        simp only [Act.put, List.setIfInBounds_toArray, List.set_cons_succ, List.set_cons_zero]
        refine wpS_this [17] rfl (by kernel_rfl) (by simp only [pickL, nthL, List.cons_append, List.nil_append]; rfl) ?_
        repeat (go_big_quiet_step (fail))
        refine wpQuiet_nil ?_
        refine wpS_loadA (i := 18) (d := some 71) (cells := enC (a).e) rfl (by rfl) rfl rfl (HM108.out.sub 6 rfl (rgC_en)) Try.underlying28 rfl (by kernel_rfl) rfl ?_
        simp only [Act.put, List.setIfInBounds_toArray, List.set_cons_succ, List.set_cons_zero]
        refine wpS_read (i := 19) (d := some 72) rfl (by rfl) (run_neqEn (b := false) (by rw [hse.out]; simp) rfl rfl rfl) rfl ?_
        simp only [Act.put, List.setIfInBounds_toArray, List.set_cons_succ, List.set_cons_zero]
        refine wpS_this [20, 21] rfl (by kernel_rfl) (by simp only [pickL, nthL, List.cons_append, List.nil_append]; rfl) ?_
        repeat (go_big_quiet_step (fail))
        refine wpQuiet_nil ?_
        refine wpS_loadA (i := 22) (d := some 75) (cells := rgC (a) (.slice pa a.p.2.2.length ca)) rfl (by rfl) rfl rfl (HM108.out.sub 6 rfl (fun k u h => by rw [Nat.zero_add]; exact h)) Try.underlying30 rfl (by kernel_rfl) rfl ?_
        simp only [Act.put, List.setIfInBounds_toArray, List.set_cons_succ, List.set_cons_zero]
        refine wpS_this [23] rfl (by kernel_rfl) (by simp only [pickL, nthL, List.cons_append, List.nil_append]; rfl) ?_
        repeat (go_big_quiet_step (fail))
        refine wpQuiet_nil ?_
        refine wpS_does2 (i := 24) (d := some 77) (rem := [_, _, _, _, _, _]) (out := [_, _, _, _, _, _, _]) rfl (by rfl) rfl Try.call14 (gleader_d (oldT W0) _ a (srcOld ha) la _ sh (srcOld hh).row lh) rfl rfl HM108.out [1] rfl covS_nil rfl rfl ?_
        rintro W110 hm109 -
        rw [hld.out]
        have HM111 := Lib.hid hm109
        clear hm109
        simp only [Act.put, List.setIfInBounds_toArray, List.set_cons_succ, List.set_cons_zero]
        refine wpS_this [25, 26, 27] rfl (by kernel_rfl) (by simp only [pickL, nthL, List.cons_append, List.nil_append]; rfl) ?_
        repeat (go_big_quiet_step (fail))
        refine wpQuiet_nil ?_
        refine wpS_nil ?_
        refine then_normal ?_
        refine wp_cond_false rfl ?_
        refine wp_skip ?_
        refine then_normal ?_
        refine wp_seq ?_
        refine wp_seq ?_
        refine wp_region_N [(0, 1), (1, 1), (2, 1), (3, 1), (4, 1), (5, 1), (6, 1), (7, 1), (8, 3), (9, 1), (10, 1), (11, 1), (12, 1), (13, 1)] (by kernel_rfl) ?_
        refine wpS_this [0, 1, 2, 3, 4, 5] rfl (by kernel_rfl) (by simp only [pickL, nthL, List.cons_append, List.nil_append]; rfl) ?_
        repeat (go_big_quiet_step (fail))
        refine wpQuiet_nil ?_
        refine wpS_loadA (i := 6) (d := some 87) (cells := rgC (s) (.slice ps s.p.2.2.length cs)) rfl (by rfl) rfl rfl (HM111.out.sub 4 rfl (fun k u h => by rw [Nat.zero_add]; exact h)) Try.underlying30 rfl (by kernel_rfl) rfl ?_
        simp only [Act.put, List.setIfInBounds_toArray, List.set_cons_succ, List.set_cons_zero]
        refine wpS_this [7] rfl (by kernel_rfl) (by simp only [pickL, nthL, List.cons_append, List.nil_append]; rfl) ?_
        repeat (go_big_quiet_step (fail))
        refine wpQuiet_nil ?_
        refine wpS_does2 (i := 8) (d := some 89) (rem := [_, _, _, _, _]) (out := [_, _, _, _, _, _, _]) rfl (by rfl) rfl Try.call14 (Does.ofList (gleader_d (listT [_, _]) _ s (srcL 0 rfl rowT_reads) ls _ sh (rowL 1 rfl (srcOld hh).row) lh)) rfl rfl HM111.out [1, 0] rfl covS_nil rfl rfl ?_
        rintro W113 hm112 -
        rw [hy.out]
        have HM114 := Lib.hid hm112
        clear hm112
        simp only [Act.put, List.setIfInBounds_toArray, List.set_cons_succ, List.set_cons_zero]
        refine wpS_this [9, 10, 11, 12, 13] rfl (by kernel_rfl) (by simp only [pickL, nthL, List.cons_append, List.nil_append]; rfl) ?_
        repeat (go_big_quiet_step (fail))
        refine wpQuiet_nil ?_
        refine wpS_nil ?_
        refine then_normal ?_
        refine wp_cond_false rfl ?_
        refine wp_skip ?_
        refine then_normal ?_
        refine wp_seq ?_
        obtain ⟨M, hM'⟩ : ∃ y, ofR a 1 2 = y := ⟨_, rfl⟩
        have hMl : M.length ≤ 8 := by rw [← hM']; exact ofR_le a 1 2
        have hM := Lib.hid hM'
        clear hM'
        refine wp_region_N [(0, 1), (1, 3), (2, 1)] (by kernel_rfl) ?_
        refine wpS_loadA (i := 0) (d := some 95) (cells := rgC (a) (.slice pa a.p.2.2.length ca)) rfl (by rfl) rfl rfl (HM114.out.sub 6 rfl (fun k u h => by rw [Nat.zero_add]; exact h)) Try.underlying30 rfl (by kernel_rfl) rfl ?_
        simp only [Act.put, List.setIfInBounds_toArray, List.set_cons_succ, List.set_cons_zero]
        refine wpS_doesU3 (i := 1) (d := some 96) (rem := [_, _, _, _, _, _]) rfl (by rfl) rfl Try.call15 (gof_d (oldT W0) _ a (srcOld ha) la 1 2) rfl rfl rfl HM114.out [1] rfl covS_nil (fun _ => rfl) rfl ?_
        rintro u117 W116 hm115 -
        rw [hM.out] at hm115
        obtain ⟨pM, cM, rfl⟩ := row_form (Mem.src hm115 0 rfl rowT_reads)
        have HM118 := Lib.hid hm115
        clear hm115
        simp only [Act.put, List.setIfInBounds_toArray, List.set_cons_succ, List.set_cons_zero]
        refine wpS_this [2] rfl (by kernel_rfl) (by simp only [pickL, nthL, List.cons_append, List.nil_append]; rfl) ?_
        repeat (go_big_quiet_step (fail))
        refine wpQuiet_nil ?_
        refine wpS_nil ?_
        refine then_normal ?_
        refine wp_seq ?_
        refine wp_seq ?_
        by_cases h0 : M = []
        · have g1 : ((M.length : Int) == 0) = true := beq_iff_eq.2 (by rw [h0]; rfl)
          replace h0 := Lib.hid h0
          refine wp_region_N [(0, 1), (1, 1), (2, 1)] (by kernel_rfl) ?_
          refine wpS_this [0, 1, 2] rfl (by kernel_rfl) (by simp only [pickL, nthL, List.cons_append, List.nil_append]; rfl) ?_
          repeat (go_big_quiet_step (fail))
          refine wpQuiet_nil ?_
          refine wpS_nil ?_
          refine then_normal ?_
          refine wp_cond_true rfl ?_
          refine wp_seq ?_
          refine wp_region_N [(0, 3), (1, 1)] (by kernel_rfl) ?_
          refine wpS_does0 (i := 0) (d := some 100) (rem := [_, _, _, _, _, _, _, _]) (out := [_, _, _, _, _, _, _, _]) rfl (by rfl) rfl Try.call9 (lawake_d)  HM118.out [] rfl covS_nil rfl rfl ?_
          rintro W120 hm119 -
          have HM121 := Lib.hid hm119
          clear hm119
          simp only [Act.put, List.setIfInBounds_toArray, List.set_cons_succ, List.set_cons_zero]
          refine wpS_this [1] rfl (by kernel_rfl) (by simp only [pickL, nthL, List.cons_append, List.nil_append]; rfl) ?_
          repeat (go_big_quiet_step (fail))
          refine wpQuiet_nil ?_
          refine wpS_nil ?_
          refine then_normal ?_
          refine wp_ret ?_
          refine then_ret ?_
          refine bodyPost_ret (results_tmp rfl _ _ _) rfl ?_
          exact does_ret (Mem.only (M := [_]) HM121.out [1] rfl) rfl rfl
        · have g1 : ((M.length : Int) == 0) = false := beq_eq_false_iff_ne.2 (fun e => h0 (List.eq_nil_of_length_eq_zero (by omega)))
          replace h0 := Lib.hid h0
          have hM0 : Hid (ofR a 1 2 ≠ []) := Lib.hid (by rw [hM.out]; exact h0.out)
          refine wp_region_N [(0, 1), (1, 1), (2, 1)] (by kernel_rfl) ?_
          refine wpS_this [0, 1, 2] rfl (by kernel_rfl) (by simp only [pickL, nthL, List.cons_append, List.nil_append]; rfl) ?_
          repeat (go_big_quiet_step (fail))
          refine wpQuiet_nil ?_
          refine wpS_nil ?_
          refine then_normal ?_
          refine wp_cond_false rfl ?_
          refine wp_skip ?_
          refine then_normal ?_
          refine wp_seq ?_
          refine wp_region_N [(0, 1)] (by kernel_rfl) ?_
          refine wpS_this [0] rfl (by kernel_rfl) (by simp only [pickL, nthL, List.cons_append, List.nil_append]; rfl) ?_
          repeat (go_big_quiet_step (fail))
          refine wpQuiet_nil ?_
          refine wpS_nil ?_
          refine then_normal ?_
          refine wp_seq ?_
          refine wp_seq ?_
          refine wp_region_N [(0, 1)] (by kernel_rfl) ?_
          refine wpS_this [0] rfl (by kernel_rfl) (by simp only [pickL, nthL, List.cons_append, List.nil_append]; rfl) ?_
          repeat (go_big_quiet_step (fail))
          refine wpQuiet_nil ?_
          refine wpS_nil ?_
          refine then_normal ?_
          refine wp_block ?_
          refine wp_loop_F [6, 12, 13, 14, 101, 102, 103, 104, 105, 106, 107, 108, 109, 110, 111, 112, 113, 114, 115, 116, 117, 118, 119, 120, 121, 122, 123, 124, 125, 126, 127] (fun n vs W' => ∃ (k : Nat) (u : Value), n = 16 - k ∧ vs 101 = .int .i64 (k : Int) ∧ vs 12 = u ∧ k ≤ 16 ∧ Mem [rowT elemI u ((targetsL s).take k), boxT b20 (.cells (rgC s (.slice ps s.p.2.2.length cs)).toArray 30 (0, 0)), rowT elemI (.slice ps s.p.2.2.length cs) s.p.2.2, rowT elemI (.slice pM M.length cM) M, oldT W0] H w W') (n0 := 16) ?_ ?_
          · exact ⟨0, _, rfl, rfl, rfl, Nat.zero_le _, Mem.nilRow elemI (Mem.only (M := [_, _, _, _]) HM118.out [5, 2, 0, 0] rfl)⟩
          rintro n vs W' ⟨k, u, rfl, e101, e12, hk, hm⟩
          simp only [putAll, List.map_cons, List.map_nil, Act.put, List.setIfInBounds_toArray, List.set_cons_succ, List.set_cons_zero]
          rw [e101, e12]
          clear e101 e12
          have HM122 := Lib.hid hm
          clear hm
          refine wp_seq ?_
          refine wp_region_N [(0, 1)] (by kernel_rfl) ?_
          refine wpS_this [0] rfl (by kernel_rfl) (by simp only [pickL, nthL, List.cons_append, List.nil_append]; rfl) ?_
          repeat (go_big_quiet_step (fail))
          refine wpQuiet_nil ?_
          refine wpS_nil ?_
          refine then_normal ?_
          refine wp_seq ?_
          refine wp_cond_split rfl (fun h123 => ?_) (fun h123 => ?_)
          · have hk1 : k + 1 ≤ 16 := by have : (k : Int) < 16 := (by simpa using h123); omega
            clear h123
            refine wp_skip ?_
            refine then_normal ?_
            refine wp_seq ?_
            refine wp_block ?_
            refine wp_seq ?_
            refine wp_region_N [(0, 1), (1, 1)] (by kernel_rfl) ?_
            refine wpS_this [0, 1] rfl (by kernel_rfl) (by simp only [pickL, nthL, List.cons_append, List.nil_append]; rfl) ?_
            repeat (go_big_quiet_step (fail))
            refine wpQuiet_nil ?_
            refine wpS_nil ?_
            refine then_normal ?_
            refine wp_seq ?_
            obtain ⟨t, htk', ht8, hts⟩ := hsd.out.target hM0.out (show k < 16 by omega)
            have gt2 : (s.s t != 2) = false := by rw [bne_eq_false_iff_eq]; exact hts
            clear hts
            have gt0 : decide ((t : Int) < 0) = false := decide_eq_false (by omega)
            have gt8 : decide ((8 : Int) ≤ (t : Int)) = false := decide_eq_false (by omega)
            have gt8n : decide (8 ≤ t) = false := decide_eq_false (by omega)
            have htt : Hid (((targetsL s).take (k + 1))[k]? = some (t : Int)) := Lib.hid (by rw [List.getElem?_take, if_pos (Nat.lt_succ_self k), targetsL_at s (show k < 16 by omega), htk'])
            have htw : Hid ((targetsL s).take k ++ [(t : Int)] = (targetsL s).take (k + 1)) := Lib.hid (by rw [List.take_add_one, targetsL_at s (show k < 16 by omega), htk']; rfl)
            have htk := Lib.hid htk'
            clear htk'
            refine wp_region_N [(0, 1), (1, 1), (2, 1), (3, 3), (4, 3), (5, 3), (6, 1)] (by kernel_rfl) ?_
            refine wpS_this [0] rfl (by kernel_rfl) (by simp only [pickL, nthL, List.cons_append, List.nil_append]; rfl) ?_
            repeat (go_big_quiet_step (fail))
            refine wpQuiet_nil ?_
            refine wpS_loadA (i := 1) (d := some 105) (cells := rgC (s) (.slice ps s.p.2.2.length cs)) rfl (by rfl) rfl rfl (HM122.out.sub 1 rfl (fun k u h => by rw [Nat.zero_add]; exact h)) Try.underlying30 rfl (by kernel_rfl) rfl ?_
            simp only [Act.put, List.setIfInBounds_toArray, List.set_cons_succ, List.set_cons_zero]
            refine wpS_this [2] rfl (by kernel_rfl) (by simp only [pickL, nthL, List.cons_append, List.nil_append]; rfl) ?_
            repeat (go_big_quiet_step (fail))
            refine wpQuiet_nil ?_
            refine wpS_does2 (i := 3) (d := some 107) (rem := [_, _, _, _]) (out := [_, _, _, _, _]) rfl (by rfl) rfl Try.call16 (gtarget_d (rowT elemI _ _) _ s rowT_reads ls (k : Int)) rfl rfl HM122.out [2] rfl covS_nil rfl rfl ?_
            rintro W125 hm124 -
            rw [htk.out]
            have HM126 := Lib.hid hm124
            clear hm124
            simp only [Act.put, List.setIfInBounds_toArray, List.set_cons_succ, List.set_cons_zero]
            refine wpS_build1 elemI (i := 4) (dd := 108) (y := (t : Int)) rfl (by rfl) rfl rfl rfl (by decide) HM126.out covS_nil rfl ?_
            rintro b129 W130 hm131 -
            have HM132 := Lib.hid hm131
            clear hm131
            simp only [Act.put, List.setIfInBounds_toArray, List.set_cons_succ, List.set_cons_zero]
            refine wpS_append (E := elemI) (i := 5) (d := some 109) (L2 := [_, _, _, _, _]) rfl (by rfl) rfl HM132.out 2 rfl rfl ((HM132.out.src 0 rfl rowT_reads)) rfl (by simp only [List.length_cons, List.length_nil, List.length_take]; show _ * 8 ≤ _; omega) rfl covS_nil rfl ?_
            rintro u135 W136 hm137 -
            obtain ⟨u135p, u135c, rfl⟩ := row_form (Mem.src hm137 0 rfl rowT_reads)
            have HM138 := Lib.hid hm137
            clear hm137
            simp only [Act.put, List.setIfInBounds_toArray, List.set_cons_succ, List.set_cons_zero]
            refine wpS_this [6] rfl (by kernel_rfl) (by simp only [pickL, nthL, List.cons_append, List.nil_append]; rfl) ?_
            repeat (go_big_quiet_step (fail))
            refine wpQuiet_nil ?_
            refine wpS_nil ?_
            refine then_normal ?_
            refine wp_seq ?_
            have HM138w := HM138.out
            rw [htw.out] at HM138w ⊢
            replace HM138 := Lib.hid HM138w
            clear HM138w
            refine wp_region_N [(0, 1), (1, 1), (2, 1), (3, 1), (4, 1)] (by kernel_rfl) ?_
            refine wpS_this [0, 1] rfl (by kernel_rfl) (by simp only [pickL, nthL, List.cons_append, List.nil_append]; rfl) ?_
            repeat (go_big_quiet_step (fail))
            refine wpQuiet_nil ?_
            refine wpS_index (E := elemI) (i := 2) (d := some 112) rfl (by rfl) rfl rfl rfl (HM138.out.row 0 rfl rowOwn) (htt.out) rfl ?_
            intro eb139 eo140 hc141
            simp only [Act.put, List.setIfInBounds_toArray, List.set_cons_succ, List.set_cons_zero]
            refine wpS_load1 (i := 3) (d := some 113) (u := .int .i64 (t : Int)) rfl (by rfl) rfl rfl (hc141 0 _ rfl) Try.underlying3 rfl rfl ?_
            simp only [Act.put, List.setIfInBounds_toArray, List.set_cons_succ, List.set_cons_zero]
            refine wpS_this [4] rfl (by kernel_rfl) (by simp only [pickL, nthL, List.cons_append, List.nil_append]; rfl) ?_
            repeat (go_big_quiet_step (fail))
            refine wpQuiet_nil ?_
            refine wpS_nil ?_
            refine then_normal ?_
            refine wp_seq ?_
            refine wp_region_N [(0, 1), (1, 1), (2, 1), (3, 1), (4, 1), (5, 1), (6, 1), (7, 1), (8, 1), (9, 1), (10, 1), (11, 1), (12, 1)] (by kernel_rfl) ?_
            refine wpS_this [0, 1, 2, 3, 4, 5, 6, 7, 8] rfl (by kernel_rfl) (by simp only [pickL, nthL, List.cons_append, List.nil_append]; rfl) ?_
            repeat (go_big_quiet_step (fail))
            refine wpQuiet_nil ?_
            refine wpS_read (i := 9) (d := some 123) rfl (by rfl) (run_addrSt (ht8) rfl rfl rfl) rfl ?_
            simp only [Act.put, List.setIfInBounds_toArray, List.set_cons_succ, List.set_cons_zero]
            refine wpS_load1 (i := 10) (d := some 124) (u := _) rfl (by rfl) rfl rfl (HM138.out.sub1 3 rfl (rgC_s (ht8))) Try.underlying3 rfl rfl ?_
            simp only [Act.put, List.setIfInBounds_toArray, List.set_cons_succ, List.set_cons_zero]
            refine wpS_this [11, 12] rfl (by kernel_rfl) (by simp only [pickL, nthL, List.cons_append, List.nil_append]; rfl) ?_
            repeat (go_big_quiet_step (fail))
            refine wpQuiet_nil ?_
            refine wpS_nil ?_
            refine then_normal ?_
            refine wp_cond_false rfl ?_
            refine wp_skip ?_
            refine block_normal ?_
            refine then_normal ?_
            refine wp_region_N [(0, 1), (1, 1)] (by kernel_rfl) ?_
            refine wpS_this [0, 1] rfl (by kernel_rfl) (by simp only [pickL, nthL, List.cons_append, List.nil_append]; rfl) ?_
            repeat (go_big_quiet_step (fail))
            refine wpQuiet_nil ?_
            refine wpS_nil ?_
            refine then_normal ?_
            refine ⟨by kernel_rfl, ?_⟩
            refine ⟨16 - (k + 1), by omega, k + 1, _, rfl, rfl, rfl, hk1, (Mem.only (M := [_, _, _, _, _]) HM138.out [0, 2, 1, 1, 1] rfl)⟩
          · have hk16 : Hid (16 ≤ k) := Lib.hid (by have : ¬ (k : Int) < 16 := (by simpa using h123); omega)
            clear h123
            refine wp_exit ?_
            refine then_exit (then_exit (block_exit ?_))
            refine then_normal ?_
            refine wp_seq ?_
            have HM122w := HM122.out
            rw [List.take_of_length_le (by rw [targetsL_len]; have := hk16.out; omega)] at HM122w
            replace HM122 := Lib.hid HM122w
            clear HM122w
            have hev : Hid (assignOf (targetsL s) (peersOf M (-1)) = targetsL s) := Lib.hid (by rw [← hM.out, ofR_peers]; exact hsd.out.even hM0.out)
            have hjn : Hid (ofR s 1 1 = []) := Lib.hid hsd.out.joined
            refine wp_region_N [(0, 1), (1, 1), (2, 3), (3, 1), (4, 3), (5, 1), (6, 1), (7, 1), (8, 3), (9, 1), (10, 1), (11, 1), (12, 1), (13, 3), (14, 1), (15, 1)] (by kernel_rfl) ?_
            refine wpS_this [0, 1] rfl (by kernel_rfl) (by simp only [pickL, nthL, List.cons_append, List.nil_append]; rfl) ?_
            repeat (go_big_quiet_step (fail))
            refine wpQuiet_nil ?_
            refine wpS_doesU2 (i := 2) (d := some 130) (rem := [_, _, _]) rfl (by rfl) rfl Try.call18 (DoesU.ofList (assign_d (listT [_, _]) _ _ (targetsL s) M (rowL 0 rfl rowOwn) (rowL 1 rfl rowOwn) (by omega))) rfl rfl HM122.out [0, 2] rfl covS_nil (fun _ => rfl) rfl ?_
            rintro u144 W143 hm142 -
            rw [hev.out] at hm142
            obtain ⟨pt, ct, rfl⟩ := row_form (Mem.src hm142 0 rfl rdRow_src)
            have HM145 := Lib.hid hm142
            clear hm142
            simp only [Act.put, List.setIfInBounds_toArray, List.set_cons_succ, List.set_cons_zero]
            refine wpS_this [3] rfl (by kernel_rfl) (by simp only [pickL, nthL, List.cons_append, List.nil_append]; rfl) ?_
            repeat (go_big_quiet_step (fail))
            refine wpQuiet_nil ?_
            refine wpS_does2 (i := 4) (d := some 132) (rem := [_, _, _, _]) (out := [_, _, _, _, _, _]) rfl (by rfl) rfl Try.call17 (Does.ofList (moves_d (listT [_, _]) _ _ (targetsL s) (targetsL s) (rowL 0 rfl rdRow_reads) (rowL 1 rfl rowOwn))) rfl rfl HM145.out [0, 0] rfl covS_nil rfl rfl ?_
            rintro W147 hm146 -
            rw [moves_self]
            have HM148 := Lib.hid hm146
            clear hm146
            simp only [Act.put, List.setIfInBounds_toArray, List.set_cons_succ, List.set_cons_zero]
            refine wpS_this [5, 6] rfl (by kernel_rfl) (by simp only [pickL, nthL, List.cons_append, List.nil_append]; rfl) ?_
            repeat (go_big_quiet_step (fail))
            refine wpQuiet_nil ?_
            refine wpS_loadA (i := 7) (d := some 135) (cells := rgC (s) (.slice ps s.p.2.2.length cs)) rfl (by rfl) rfl rfl (HM148.out.sub 3 rfl (fun k u h => by rw [Nat.zero_add]; exact h)) Try.underlying30 rfl (by kernel_rfl) rfl ?_
            simp only [Act.put, List.setIfInBounds_toArray, List.set_cons_succ, List.set_cons_zero]
            refine wpS_doesU3 (i := 8) (d := some 136) (rem := [_, _, _, _, _]) rfl (by rfl) rfl Try.call15 (gof_d (rowT elemI _ _) _ s rowT_reads ls 1 1) rfl rfl rfl HM148.out [4] rfl covS_nil (fun _ => rfl) rfl ?_
            rintro u151 W150 hm149 -
            rw [hjn.out] at hm149
            obtain ⟨pJ, cJ, rfl⟩ := row_form0 (Mem.src hm149 0 rfl rowT_reads)
            have HM152 := Lib.hid hm149
            clear hm149
            simp only [Act.put, List.setIfInBounds_toArray, List.set_cons_succ, List.set_cons_zero]
            refine wpS_this [9, 10, 11, 12] rfl (by kernel_rfl) (by simp only [pickL, nthL, List.cons_append, List.nil_append]; rfl) ?_
            repeat (go_big_quiet_step (fail))
            refine wpQuiet_nil ?_
            refine wpS_does0 (i := 13) (d := some 141) (rem := [_, _, _, _, _, _, _]) (out := [_, _, _, _, _, _, _]) rfl (by rfl) rfl Try.call9 (lawake_d)  HM152.out [] rfl covS_nil rfl rfl ?_
            rintro W154 hm153 -
            have HM155 := Lib.hid hm153
            clear hm153
            simp only [Act.put, List.setIfInBounds_toArray, List.set_cons_succ, List.set_cons_zero]
            refine wpS_this [14, 15] rfl (by kernel_rfl) (by simp only [pickL, nthL, List.cons_append, List.nil_append]; rfl) ?_
            repeat (go_big_quiet_step (fail))
            refine wpQuiet_nil ?_
            refine wpS_nil ?_
            refine then_normal ?_
            refine wp_ret ?_
            refine bodyPost_ret (results_tmp rfl _ _ _) rfl ?_
            exact does_ret (Mem.only (M := [_]) HM155.out [6] rfl) rfl rfl
    · have g1 : (se != 0) = true := bne_iff_ne.2 hse
      have hno : s = noR := stage_no hs.out hse
      subst hno
      clear hse
      refine wp_region_N [(0, 1), (1, 1)] (by kernel_rfl) ?_
      refine wpS_this [0, 1] rfl (by kernel_rfl) (by simp only [pickL, nthL, List.cons_append, List.nil_append]; rfl) ?_
      repeat (go_big_quiet_step (fail))
      refine wpQuiet_nil ?_
      refine wpS_nil ?_
      refine then_normal ?_
      refine wp_cond_true rfl ?_
      refine wp_seq ?_
      refine wp_region_N [(0, 1), (1, 1), (2, 3), (3, 1), (4, 3), (5, 1), (6, 1)] (by kernel_rfl) ?_
      refine wpS_loadA (i := 0) (d := some 34) (cells := rgC (noR) (.slice ps noR.p.2.2.length cs)) rfl (by rfl) rfl rfl (HM24.out.sub 0 rfl (fun k u h => by rw [Nat.zero_add]; exact h)) Try.underlying30 rfl (by kernel_rfl) rfl ?_
      simp only [Act.put, List.setIfInBounds_toArray, List.set_cons_succ, List.set_cons_zero]
      refine wpS_read (i := 1) (d := some 35) (v := rgV noR (.slice none 0 0)) rfl (by rfl) (by kernel_rfl) rfl ?_
      simp only [Act.put, List.setIfInBounds_toArray, List.set_cons_succ, List.set_cons_zero]
      refine wpS_does2 (i := 2) (d := some 36) (rem := [_, _, _, _]) (out := [_, _, _, _, _]) rfl (by rfl) rfl Try.call11 (gsame_d (rowT elemI _ _) _ noR rowT_reads (Nat.zero_le _) _ noR (srcNil _) (Nat.zero_le _)) rfl rfl HM24.out [1] rfl covS_nil rfl rfl ?_
      rintro W157 hm156 -
      rw [sameR_self]
      have HM158 := Lib.hid hm156
      clear hm156
      simp only [Act.put, List.setIfInBounds_toArray, List.set_cons_succ, List.set_cons_zero]
      refine wpS_this [3] rfl (by kernel_rfl) (by simp only [pickL, nthL, List.cons_append, List.nil_append]; rfl) ?_
      repeat (go_big_quiet_step (fail))
      refine wpQuiet_nil ?_
      refine wpS_does0 (i := 4) (d := some 38) (rem := [_, _, _, _, _]) (out := [_, _, _, _, _]) rfl (by rfl) rfl Try.call9 (lawake_d)  HM158.out [] rfl covS_nil rfl rfl ?_
      rintro W160 hm159 -
      have HM161 := Lib.hid hm159
      clear hm159
      simp only [Act.put, List.setIfInBounds_toArray, List.set_cons_succ, List.set_cons_zero]
      refine wpS_this [5, 6] rfl (by kernel_rfl) (by simp only [pickL, nthL, List.cons_append, List.nil_append]; rfl) ?_
      repeat (go_big_quiet_step (fail))
      refine wpQuiet_nil ?_
      refine wpS_nil ?_
      refine then_normal ?_
      refine wp_ret ?_
      refine then_ret ?_
      refine bodyPost_ret (results_tmp rfl _ _ _) rfl ?_
      exact does_ret (Mem.only (M := [_]) HM161.out [2] rfl) rfl rfl
  · replace hw : a.p.2.2.length ≤ 100 := hw
    replace hfw : Hid (hvy 0 [⟨a, pa, a.p.2.2.length, ca⟩] = 0) := Lib.hid hfw
    have la : a.p.2.2.length ≤ 1000 := by omega
    clear hw
    have g60h : decide (60 < sh.length) = true := decide_eq_true (by omega)
    have g60h' : decide ((60 : Int) < (sh.length : Int)) = true := decide_eq_true (by omega)
    refine wp_region_N [(0, 1), (1, 3), (2, 3), (3, 1), (4, 1), (5, 1), (6, 1), (7, 1), (8, 1)] (by kernel_rfl) ?_
    refine wpS_loadA (i := 0) (d := some 15) (cells := rgC (a) (.slice pa a.p.2.2.length ca)) rfl (by rfl) rfl rfl (HM4.out.sub 0 rfl (fun k u h => by rw [Nat.zero_add]; exact h)) Try.underlying30 rfl (by kernel_rfl) rfl ?_
    simp only [Act.put, List.setIfInBounds_toArray, List.set_cons_succ, List.set_cons_zero]
    refine wpS_buildN elemR (i := 1) (dd := 16) (n := 1) (xs := [⟨a, pa, a.p.2.2.length, ca⟩]) (cs := (rgC a (.slice pa a.p.2.2.length ca) ++ []).toArray) rfl (by rfl) (fun _ => by kernel_rfl) rfl rfl HM4.out covS_nil rfl ?_
    rintro b164 W165 hm166 -
    have HM167 := Lib.hid hm166
    clear hm166
    simp only [Act.put, List.setIfInBounds_toArray, List.set_cons_succ, List.set_cons_zero]
    refine wpS_does1 (i := 2) (d := some 17) (rem := [_, _]) (out := [_, _, _]) rfl (by rfl) rfl Try.call8 (heavy_d (rowT elemR _ _) _ _ rowOwnE (Nat.le_of_ble_eq_true rfl)) rfl HM167.out [0] rfl covS_nil rfl rfl ?_
    rintro W169 hm168 -
    rw [hfw.out]
    have HM170 := Lib.hid hm168
    clear hm168
    simp only [Act.put, List.setIfInBounds_toArray, List.set_cons_succ, List.set_cons_zero]
    refine wpS_this [3, 4, 5, 6, 7, 8] rfl (by kernel_rfl) (by simp only [pickL, nthL, List.cons_append, List.nil_append]; rfl) ?_
    repeat (go_big_quiet_step (fail))
    refine wpQuiet_nil ?_
    refine wpS_nil ?_
    refine then_normal ?_
    refine wp_cond_true rfl ?_
    refine wp_seq ?_
    refine wp_region_N [(0, 3), (1, 1)] (by kernel_rfl) ?_
    refine wpS_does0 (i := 0) (d := some 24) (rem := [_, _, _]) (out := [_, _, _]) rfl (by rfl) rfl Try.call9 (lawake_d)  HM170.out [] rfl covS_nil rfl rfl ?_
    rintro W172 hm171 -
    have HM173 := Lib.hid hm171
    clear hm171
    simp only [Act.put, List.setIfInBounds_toArray, List.set_cons_succ, List.set_cons_zero]
    refine wpS_this [1] rfl (by kernel_rfl) (by simp only [pickL, nthL, List.cons_append, List.nil_append]; rfl) ?_
    repeat (go_big_quiet_step (fail))
    refine wpQuiet_nil ?_
    refine wpS_nil ?_
    refine then_normal ?_
    refine wp_ret ?_
    refine then_ret ?_
    refine bodyPost_ret (results_tmp rfl _ _ _) rfl ?_
    exact does_ret (Mem.only (M := [_]) HM173.out [2] rfl) rfl rfl
  · clear hw
    obtain ⟨z, hz'⟩ := int_letter (hvy 0 [⟨a, pa, a.p.2.2.length, ca⟩])
    replace hfw : 0 < hvy 0 [⟨a, pa, a.p.2.2.length, ca⟩] := hfw
    rw [hz'] at hfw
    have gz : decide (0 < z) = true := decide_eq_true hfw
    clear hfw
    have hfw := Lib.hid hz'
    clear hz'
    refine wp_region_N [(0, 1), (1, 3), (2, 3), (3, 1), (4, 1), (5, 1), (6, 1), (7, 1), (8, 1)] (by kernel_rfl) ?_
    refine wpS_loadA (i := 0) (d := some 15) (cells := rgC (a) (.slice pa a.p.2.2.length ca)) rfl (by rfl) rfl rfl (HM4.out.sub 0 rfl (fun k u h => by rw [Nat.zero_add]; exact h)) Try.underlying30 rfl (by kernel_rfl) rfl ?_
    simp only [Act.put, List.setIfInBounds_toArray, List.set_cons_succ, List.set_cons_zero]
    refine wpS_buildN elemR (i := 1) (dd := 16) (n := 1) (xs := [⟨a, pa, a.p.2.2.length, ca⟩]) (cs := (rgC a (.slice pa a.p.2.2.length ca) ++ []).toArray) rfl (by rfl) (fun _ => by kernel_rfl) rfl rfl HM4.out covS_nil rfl ?_
    rintro b176 W177 hm178 -
    have HM179 := Lib.hid hm178
    clear hm178
    simp only [Act.put, List.setIfInBounds_toArray, List.set_cons_succ, List.set_cons_zero]
    refine wpS_does1 (i := 2) (d := some 17) (rem := [_, _]) (out := [_, _, _]) rfl (by rfl) rfl Try.call8 (heavy_d (rowT elemR _ _) _ _ rowOwnE (Nat.le_of_ble_eq_true rfl)) rfl HM179.out [0] rfl covS_nil rfl rfl ?_
    rintro W181 hm180 -
    rw [hfw.out]
    have HM182 := Lib.hid hm180
    clear hm180
    simp only [Act.put, List.setIfInBounds_toArray, List.set_cons_succ, List.set_cons_zero]
    refine wpS_this [3, 4, 5, 6, 7, 8] rfl (by kernel_rfl) (by simp only [pickL, nthL, List.cons_append, List.nil_append]; rfl) ?_
    repeat (go_big_quiet_step (fail))
    refine wpQuiet_nil ?_
    refine wpS_nil ?_
    refine then_normal ?_
    refine wp_cond_true rfl ?_
    refine wp_seq ?_
    refine wp_region_N [(0, 3), (1, 1)] (by kernel_rfl) ?_
    refine wpS_does0 (i := 0) (d := some 24) (rem := [_, _, _]) (out := [_, _, _]) rfl (by rfl) rfl Try.call9 (lawake_d)  HM182.out [] rfl covS_nil rfl rfl ?_
    rintro W184 hm183 -
    have HM185 := Lib.hid hm183
    clear hm183
    simp only [Act.put, List.setIfInBounds_toArray, List.set_cons_succ, List.set_cons_zero]
    refine wpS_this [1] rfl (by kernel_rfl) (by simp only [pickL, nthL, List.cons_append, List.nil_append]; rfl) ?_
    repeat (go_big_quiet_step (fail))
    refine wpQuiet_nil ?_
    refine wpS_nil ?_
    refine then_normal ?_
    refine wp_ret ?_
    refine then_ret ?_
    refine bodyPost_ret (results_tmp rfl _ _ _) rfl ?_
    exact does_ret (Mem.only (M := [_]) HM185.out [2] rfl) rfl rfl

theorem risesLaw (c0 : Rg × Value) (n1 : Int) (v2 : Value) (l2 : List Int) (W : World) (h0 : SrcE elemI W c0.2 c0.1.p.2.2) (h2 : SrcE elemI W v2 l2) (_ : l2.length * elemI.bytes ≤ 140737488351232) : Gives Try.prog 3 #[rgV c0.1 c0.2, .int .i64 n1, v2] W (.bool true) := (rises_d W c0.2 c0.1 h0 n1 v2 l2 h2).givesOld
end Go.Proofs.Ytdfmfcbeebfdhaa
