/- Rings: RingJoins. -/
import Derived.Test.YtihhopoplcelfaaRgE
namespace Go.Proofs.Ytihhopoplcelfaa
open Go Go.RowKit Go.BigFrame

set_option maxHeartbeats 4000000 in
set_option maxRecDepth 100000 in
theorem joins_d (W0 : World) (va : Value) (a : Rg) (ha : SrcE elemI W0 va a.p.2.2) (vb : Value) (b : Rg) (hb : SrcE elemI W0 vb b.p.2.2) (vc : Value) (c : Rg) (hc : SrcE elemI W0 vc c.p.2.2)  : Does Try.prog 3 #[rgV a va, rgV b vb, rgV c vc] [oldT W0] (.bool true) [oldT W0] := by
  intro w H hp
  have HM0 := Lib.hid (mem_refl hp)
  clear hp
  obtain ⟨pa, ca, rfl⟩ := row_form ha
  obtain ⟨pb, cb, rfl⟩ := row_form hb
  obtain ⟨pc, cc, rfl⟩ := row_form hc
  go_enter Try.func3, Try.ntmps3
  refine wp_seq ?_
  refine wp_region_N [(0, 3), (1, 3), (2, 3), (3, 1)] (by kernel_rfl) ?_
  refine wpS_boxA (i := 0) (dd := 3) rfl (by rfl) rfl rfl HM0.out covS_nil rfl ?_
  rintro b3 W2 hm1 -
  have HM4 := Lib.hid hm1
  clear hm1
  simp only [Act.put, List.setIfInBounds_toArray, List.set_cons_succ, List.set_cons_zero]
  refine wpS_boxA (i := 1) (dd := 4) rfl (by rfl) rfl rfl HM4.out covS_nil rfl ?_
  rintro b7 W6 hm5 -
  have HM8 := Lib.hid hm5
  clear hm5
  simp only [Act.put, List.setIfInBounds_toArray, List.set_cons_succ, List.set_cons_zero]
  refine wpS_boxA (i := 2) (dd := 5) rfl (by rfl) rfl rfl HM8.out covS_nil rfl ?_
  rintro b11 W10 hm9 -
  have HM12 := Lib.hid hm9
  clear hm9
  simp only [Act.put, List.setIfInBounds_toArray, List.set_cons_succ, List.set_cons_zero]
  refine wpS_this [3] rfl (by kernel_rfl) (by simp only [pickL, nthL, List.cons_append, List.nil_append]; rfl) ?_
  repeat (go_big_quiet_step (fail))
  refine wpQuiet_nil ?_
  refine wpS_nil ?_
  refine then_normal ?_
  refine wp_seq ?_
  refine wp_seq ?_
  rcases hvy3 ⟨a, pa, a.p.2.2.length, ca⟩ ⟨b, pb, b.p.2.2.length, cb⟩ ⟨c, pc, c.p.2.2.length, cc⟩ with ⟨hw, hfw⟩ | ⟨hw, hfw⟩
  · replace hw : a.p.2.2.length ≤ 100 ∧ b.p.2.2.length ≤ 100 ∧ c.p.2.2.length ≤ 100 := hw
    replace hfw : Hid (hvy 0 [⟨a, pa, a.p.2.2.length, ca⟩, ⟨b, pb, b.p.2.2.length, cb⟩, ⟨c, pc, c.p.2.2.length, cc⟩] = 0) := Lib.hid hfw
    have la : a.p.2.2.length ≤ 1000 := by omega
    have lb : b.p.2.2.length ≤ 1000 := by omega
    have lc : c.p.2.2.length ≤ 1000 := by omega
    clear hw
    refine wp_region_N [(0, 1), (1, 1), (2, 1), (3, 3), (4, 3), (5, 1)] (by kernel_rfl) ?_
    refine wpS_loadA (i := 0) (d := some 8) (cells := rgC (a) (.slice pa a.p.2.2.length ca)) rfl (by rfl) rfl rfl (HM12.out.sub 2 rfl (fun k u h => by rw [Nat.zero_add]; exact h)) Try.underlying30 rfl (by kernel_rfl) rfl ?_
    simp only [Act.put, List.setIfInBounds_toArray, List.set_cons_succ, List.set_cons_zero]
    refine wpS_loadA (i := 1) (d := some 9) (cells := rgC (b) (.slice pb b.p.2.2.length cb)) rfl (by rfl) rfl rfl (HM12.out.sub 1 rfl (fun k u h => by rw [Nat.zero_add]; exact h)) Try.underlying30 rfl (by kernel_rfl) rfl ?_
    simp only [Act.put, List.setIfInBounds_toArray, List.set_cons_succ, List.set_cons_zero]
    refine wpS_loadA (i := 2) (d := some 10) (cells := rgC (c) (.slice pc c.p.2.2.length cc)) rfl (by rfl) rfl rfl (HM12.out.sub 0 rfl (fun k u h => by rw [Nat.zero_add]; exact h)) Try.underlying30 rfl (by kernel_rfl) rfl ?_
    simp only [Act.put, List.setIfInBounds_toArray, List.set_cons_succ, List.set_cons_zero]
    refine wpS_buildN elemR (i := 3) (dd := 11) (n := 3) (xs := [⟨a, pa, a.p.2.2.length, ca⟩, ⟨b, pb, b.p.2.2.length, cb⟩, ⟨c, pc, c.p.2.2.length, cc⟩]) (cs := (rgC a (.slice pa a.p.2.2.length ca) ++ (rgC b (.slice pb b.p.2.2.length cb) ++ (rgC c (.slice pc c.p.2.2.length cc) ++ []))).toArray) rfl (by rfl) (fun _ => by kernel_rfl) rfl rfl HM12.out covS_nil rfl ?_
    rintro b15 W16 hm17 -
    have HM18 := Lib.hid hm17
    clear hm17
    simp only [Act.put, List.setIfInBounds_toArray, List.set_cons_succ, List.set_cons_zero]
    refine wpS_does1 (i := 4) (d := some 12) (rem := [_, _, _, _]) (out := [_, _, _, _, _]) rfl (by rfl) rfl Try.call8 (heavy_d (rowT elemR _ _) _ _ rowOwnE (Nat.le_of_ble_eq_true rfl)) rfl HM18.out [0] rfl covS_nil rfl rfl ?_
    rintro W20 hm19 -
    rw [hfw.out]
    have HM21 := Lib.hid hm19
    clear hm19
    simp only [Act.put, List.setIfInBounds_toArray, List.set_cons_succ, List.set_cons_zero]
    refine wpS_this [5] rfl (by kernel_rfl) (by simp only [pickL, nthL, List.cons_append, List.nil_append]; rfl) ?_
    repeat (go_big_quiet_step (fail))
    refine wpQuiet_nil ?_
    refine wpS_nil ?_
    refine then_normal ?_
    refine wp_cond_false rfl ?_
    refine wp_skip ?_
    refine then_normal ?_
    refine wp_seq ?_
    obtain ⟨x, hx'⟩ := ring_letter (joinR a b)
    have hx := Lib.hid hx'
    clear hx'
    obtain ⟨y, hy'⟩ := ring_letter (joinR x c)
    have hy := Lib.hid hy'
    clear hy'
    obtain ⟨z, hz'⟩ := ring_letter (joinR b c)
    have hz := Lib.hid hz'
    clear hz'
    have lx : x.p.2.2.length ≤ 1000 := by rw [← hx.out]; exact joinR_len la lb
    have ly : y.p.2.2.length ≤ 1000 := by rw [← hy.out]; exact joinR_len lx lc
    have lz : z.p.2.2.length ≤ 1000 := by rw [← hz.out]; exact joinR_len lb lc
    have hbx : Hid (belowR a x = true) := Lib.hid (by rw [← hx.out]; exact below_left a b)
    have hby : Hid (belowR b x = true) := Lib.hid (by rw [← hx.out]; exact below_right a b)
    obtain ⟨s, hs'⟩ := bool_letter (sameR a b)
    have hs := Lib.hid hs'
    clear hs'
    have gs1 : (s != s) = false := bne_self_eq_false _
    have gs2 : (s == s) = true := beq_self_eq_true _
    refine wp_region_N [(0, 1), (1, 1), (2, 3), (3, 3), (4, 3)] (by kernel_rfl) ?_
    refine wpS_loadA (i := 0) (d := some 15) (cells := rgC (a) (.slice pa a.p.2.2.length ca)) rfl (by rfl) rfl rfl (HM21.out.sub 3 rfl (fun k u h => by rw [Nat.zero_add]; exact h)) Try.underlying30 rfl (by kernel_rfl) rfl ?_
    simp only [Act.put, List.setIfInBounds_toArray, List.set_cons_succ, List.set_cons_zero]
    refine wpS_loadA (i := 1) (d := some 16) (cells := rgC (b) (.slice pb b.p.2.2.length cb)) rfl (by rfl) rfl rfl (HM21.out.sub 2 rfl (fun k u h => by rw [Nat.zero_add]; exact h)) Try.underlying30 rfl (by kernel_rfl) rfl ?_
    simp only [Act.put, List.setIfInBounds_toArray, List.set_cons_succ, List.set_cons_zero]
    refine wpS_doesU2 (i := 2) (d := some 17) (rem := [_, _, _, _]) rfl (by rfl) rfl Try.call10 (gjoin_d (oldT W0) _ a (srcOld ha) la _ b (srcOld hb) lb x hx.out) rfl rfl HM21.out [4] rfl covS_nil (fun _ => rfl) rfl ?_
    rintro u24 W23 hm22 -
    obtain ⟨px, cx, rfl, hm22q⟩ := Mem.ring rfl hm22
    clear hm22
    have HM25 := Lib.hid hm22q
    clear hm22q
    simp only [Act.put, List.setIfInBounds_toArray, List.set_cons_succ, List.set_cons_zero]
    refine wpS_alloc (i := 3) (dd := 7) (z := rgV noR (.slice none 0 0)) (cs := (rgC noR (.slice none 0 0)).toArray) rfl (by rfl) rfl (by kernel_rfl) rfl HM25.out covS_nil rfl ?_
    rintro b28 W27 hm26 -
    have HM29 := Lib.hid hm26
    clear hm26
    simp only [Act.put, List.setIfInBounds_toArray, List.set_cons_succ, List.set_cons_zero]
    refine wpS_storeA (i := 4) (L2 := [_, _, _, _, _, _]) (cs' := rgC (x) (.slice px x.p.2.2.length cx)) rfl (by rfl) rfl rfl rfl (by kernel_rfl) (rgC_one _ _ _) HM29.out 0 rfl rfl (by kernel_rfl) (by kernel_rfl) covS_nil rfl ?_
    rintro W31 hm30 -
    have HM32 := Lib.hid hm30
    clear hm30
    refine wpS_nil ?_
    refine then_normal ?_
    refine wp_seq ?_
    refine wp_seq ?_
    refine wp_region_M (fun k => k ∈ ([b3, b7, b11, b28] : List Nat)) [(0, 2), (1, 1), (2, 1), (3, 3), (4, 3), (5, 1), (6, 1), (7, 1), (8, 1), (10, 2), (11, 2), (12, 2), (9, 3), (13, 3), (14, 3), (15, 3), (16, 1), (17, 1), (18, 1), (19, 1), (20, 1), (22, 2), (21, 3), (23, 3), (24, 1), (25, 1), (26, 1), (27, 1), (28, 1), (29, 3), (30, 1), (31, 1), (32, 1), (33, 1), (34, 1), (35, 3), (36, 1), (37, 1)] (by kernel_rfl) (by kernel_rfl) HM32.out ?_
    intro W33 hm34
    have HM35 := Lib.hid hm34
    clear hm34
    refine wpS_loadA2 (i := 0) (d := some 18) (cells := rgC (x) (.slice px x.p.2.2.length cx)) rfl (by rfl) rfl rfl (by simp) (HM35.out.sub 0 rfl (fun k u h => by rw [Nat.zero_add]; exact h)) Try.underlying30 rfl (by kernel_rfl) rfl ?_
    simp only [Act.put, List.setIfInBounds_toArray, List.set_cons_succ, List.set_cons_zero]
    refine wpS_loadA (i := 1) (d := some 19) (cells := rgC (b) (.slice pb b.p.2.2.length cb)) rfl (by rfl) rfl rfl (HM35.out.sub 5 rfl (fun k u h => by rw [Nat.zero_add]; exact h)) Try.underlying30 rfl (by kernel_rfl) rfl ?_
    simp only [Act.put, List.setIfInBounds_toArray, List.set_cons_succ, List.set_cons_zero]
    refine wpS_loadA (i := 2) (d := some 20) (cells := rgC (a) (.slice pa a.p.2.2.length ca)) rfl (by rfl) rfl rfl (HM35.out.sub 6 rfl (fun k u h => by rw [Nat.zero_add]; exact h)) Try.underlying30 rfl (by kernel_rfl) rfl ?_
    simp only [Act.put, List.setIfInBounds_toArray, List.set_cons_succ, List.set_cons_zero]
    refine wpS_doesU2 (i := 3) (d := some 21) (rem := [_, _, _, _, _, _]) rfl (by rfl) rfl Try.call10 (gjoin_d (oldT W0) _ b (srcOld hb) lb _ a (srcOld ha) la x ((joinR_comm _ _).trans hx.out)) rfl rfl HM35.out [2] rfl (covS_box 5 rfl (covS_box 4 rfl (covS_box 3 rfl (covS_box 0 rfl covS_nil)))) (fun _ => rfl) rfl ?_
    rintro u39 W37 hm36 hg38
    obtain ⟨pxb, cxb, rfl, hm36q⟩ := Mem.ring rfl hm36
    clear hm36
    have HM40 := Lib.hid hm36q
    clear hm36q
    simp only [Act.put, List.setIfInBounds_toArray, List.set_cons_succ, List.set_cons_zero]
    refine wpS_does2 (i := 4) (d := some 22) (rem := [_, _, _, _, _, _]) (out := [_, _, _, _, _, _, _, _]) rfl (by rfl) rfl Try.call11 (Does.ofList (gsame_d (listT [_, _]) _ x (srcL 0 rfl rowT_reads) lx _ x (srcL 1 rfl rowT_reads) lx)) rfl rfl HM40.out [3, 0] rfl (covS_box 5 rfl (covS_box 4 rfl (covS_box 3 rfl (covS_box 1 rfl covS_nil)))) rfl rfl ?_
    rintro W42 hm41 hg43
    rw [sameR_self]
    have HM44 := Lib.hid hm41
    clear hm41
    simp only [Act.put, List.setIfInBounds_toArray, List.set_cons_succ, List.set_cons_zero]
    refine wpS_this [5, 6] rfl (by kernel_rfl) (by simp only [pickL, nthL, List.cons_append, List.nil_append]; rfl) ?_
    repeat (go_big_quiet_step (fail))
    refine wpQuiet_nil ?_
    refine wpS_loadA (i := 7) (d := some 25) (cells := rgC (x) (.slice px x.p.2.2.length cx)) rfl (by rfl) rfl rfl (HM44.out.sub 3 rfl (fun k u h => by rw [Nat.zero_add]; exact h)) Try.underlying30 rfl (by kernel_rfl) rfl ?_
    simp only [Act.put, List.setIfInBounds_toArray, List.set_cons_succ, List.set_cons_zero]
    refine wpS_loadA (i := 8) (d := some 26) (cells := rgC (c) (.slice pc c.p.2.2.length cc)) rfl (by rfl) rfl rfl (HM44.out.sub 5 rfl (fun k u h => by rw [Nat.zero_add]; exact h)) Try.underlying30 rfl (by kernel_rfl) rfl ?_
    simp only [Act.put, List.setIfInBounds_toArray, List.set_cons_succ, List.set_cons_zero]
    refine wpS_loadA2 (i := 10) (d := some 28) (cells := rgC (a) (.slice pa a.p.2.2.length ca)) rfl (by rfl) rfl rfl (by simp) (HM44.out.sub 7 rfl (fun k u h => by rw [Nat.zero_add]; exact h)) Try.underlying30 rfl (by kernel_rfl) rfl ?_
    simp only [Act.put, List.setIfInBounds_toArray, List.set_cons_succ, List.set_cons_zero]
    refine wpS_loadA2 (i := 11) (d := some 29) (cells := rgC (b) (.slice pb b.p.2.2.length cb)) rfl (by rfl) rfl rfl (by simp) (HM44.out.sub 6 rfl (fun k u h => by rw [Nat.zero_add]; exact h)) Try.underlying30 rfl (by kernel_rfl) rfl ?_
    simp only [Act.put, List.setIfInBounds_toArray, List.set_cons_succ, List.set_cons_zero]
    refine wpS_loadA2 (i := 12) (d := some 30) (cells := rgC (c) (.slice pc c.p.2.2.length cc)) rfl (by rfl) rfl rfl (by simp) (HM44.out.sub 5 rfl (fun k u h => by rw [Nat.zero_add]; exact h)) Try.underlying30 rfl (by kernel_rfl) rfl ?_
    simp only [Act.put, List.setIfInBounds_toArray, List.set_cons_succ, List.set_cons_zero]
    refine wpS_doesU2 (i := 9) (d := some 27) (rem := [_, _, _, _, _, _]) rfl (by rfl) rfl Try.call10 (DoesU.ofList (gjoin_d (listT [_, _]) _ x (srcL 0 rfl rowT_reads) lx _ c (srcL 1 rfl (srcOld hc)) lc y hy.out)) rfl rfl HM44.out [0, 1] rfl (covS_box 5 rfl (covS_box 4 rfl (covS_box 3 rfl (covS_box 1 rfl covS_nil)))) (fun _ => rfl) rfl ?_
    rintro u48 W46 hm45 hg47
    obtain ⟨py, cy, rfl, hm45q⟩ := Mem.ring rfl hm45
    clear hm45
    have HM49 := Lib.hid hm45q
    clear hm45q
    simp only [Act.put, List.setIfInBounds_toArray, List.set_cons_succ, List.set_cons_zero]
    refine wpS_doesU2 (i := 13) (d := some 31) (rem := [_, _, _, _, _, _, _, _]) rfl (by rfl) rfl Try.call10 (gjoin_d (oldT W0) _ b (srcOld hb) lb _ c (srcOld hc) lc z hz.out) rfl rfl HM49.out [2] rfl (covS_box 7 rfl (covS_box 6 rfl (covS_box 5 rfl (covS_box 3 rfl covS_nil)))) (fun _ => rfl) rfl ?_
    rintro u53 W51 hm50 hg52
    obtain ⟨pz, cz, rfl, hm50q⟩ := Mem.ring rfl hm50
    clear hm50
    have HM54 := Lib.hid hm50q
    clear hm50q
    simp only [Act.put, List.setIfInBounds_toArray, List.set_cons_succ, List.set_cons_zero]
    refine wpS_doesU2 (i := 14) (d := some 32) (rem := [_, _, _, _, _, _, _, _]) rfl (by rfl) rfl Try.call10 (DoesU.ofList (gjoin_d (listT [_, _]) _ a (srcL 1 rfl (srcOld ha)) la _ z (srcL 0 rfl rowT_reads) lz y (by rw [← hz.out, ← joinR_assoc, hx.out, hy.out]))) rfl rfl HM54.out [0, 0] rfl (covS_box 7 rfl (covS_box 6 rfl (covS_box 5 rfl (covS_box 3 rfl covS_nil)))) (fun _ => rfl) rfl ?_
    rintro u58 W56 hm55 hg57
    obtain ⟨pyb, cyb, rfl, hm55q⟩ := Mem.ring rfl hm55
    clear hm55
    have HM59 := Lib.hid hm55q
    clear hm55q
    simp only [Act.put, List.setIfInBounds_toArray, List.set_cons_succ, List.set_cons_zero]
    refine wpS_does2 (i := 15) (d := some 33) (rem := [_, _, _, _, _, _, _, _, _]) (out := [_, _, _, _, _, _, _, _, _, _, _]) rfl (by rfl) rfl Try.call11 (Does.ofList (gsame_d (listT [_, _]) _ y (srcL 0 rfl rowT_reads) ly _ y (srcL 1 rfl rowT_reads) ly)) rfl rfl HM59.out [3, 0] rfl (covS_box 8 rfl (covS_box 7 rfl (covS_box 6 rfl (covS_box 4 rfl covS_nil)))) rfl rfl ?_
    rintro W61 hm60 hg62
    rw [sameR_self]
    have HM63 := Lib.hid hm60
    clear hm60
    simp only [Act.put, List.setIfInBounds_toArray, List.set_cons_succ, List.set_cons_zero]
    refine wpS_this [16, 17, 18] rfl (by kernel_rfl) (by simp only [pickL, nthL, List.cons_append, List.nil_append]; rfl) ?_
    repeat (go_big_quiet_step (fail))
    refine wpQuiet_nil ?_
    refine wpS_loadA (i := 19) (d := some 37) (cells := rgC (a) (.slice pa a.p.2.2.length ca)) rfl (by rfl) rfl rfl (HM63.out.sub 10 rfl (fun k u h => by rw [Nat.zero_add]; exact h)) Try.underlying30 rfl (by kernel_rfl) rfl ?_
    simp only [Act.put, List.setIfInBounds_toArray, List.set_cons_succ, List.set_cons_zero]
    refine wpS_loadA (i := 20) (d := some 38) (cells := rgC (a) (.slice pa a.p.2.2.length ca)) rfl (by rfl) rfl rfl (HM63.out.sub 10 rfl (fun k u h => by rw [Nat.zero_add]; exact h)) Try.underlying30 rfl (by kernel_rfl) rfl ?_
    simp only [Act.put, List.setIfInBounds_toArray, List.set_cons_succ, List.set_cons_zero]
    refine wpS_loadA2 (i := 22) (d := some 40) (cells := rgC (a) (.slice pa a.p.2.2.length ca)) rfl (by rfl) rfl rfl (by simp) (HM63.out.sub 10 rfl (fun k u h => by rw [Nat.zero_add]; exact h)) Try.underlying30 rfl (by kernel_rfl) rfl ?_
    simp only [Act.put, List.setIfInBounds_toArray, List.set_cons_succ, List.set_cons_zero]
    refine wpS_doesU2 (i := 21) (d := some 39) (rem := [_, _, _, _, _, _, _, _, _, _]) rfl (by rfl) rfl Try.call10 (gjoin_d (oldT W0) _ a (srcOld ha) la _ a (srcOld ha) la a (joinR_self _)) rfl rfl HM63.out [3] rfl (covS_box 9 rfl (covS_box 8 rfl (covS_box 7 rfl (covS_box 5 rfl covS_nil)))) (fun _ => rfl) rfl ?_
    rintro u67 W65 hm64 hg66
    obtain ⟨paa, caa, rfl, hm64q⟩ := Mem.ring rfl hm64
    clear hm64
    have HM68 := Lib.hid hm64q
    clear hm64q
    simp only [Act.put, List.setIfInBounds_toArray, List.set_cons_succ, List.set_cons_zero]
    refine wpS_does2 (i := 23) (d := some 41) (rem := [_, _, _, _, _, _, _, _, _, _]) (out := [_, _, _, _, _, _, _, _, _, _, _, _]) rfl (by rfl) rfl Try.call11 (Does.ofList (gsame_d (listT [_, _]) _ a (srcL 0 rfl rowT_reads) la _ a (srcL 1 rfl (srcOld ha)) la)) rfl rfl HM68.out [0, 0] rfl (covS_box 9 rfl (covS_box 8 rfl (covS_box 7 rfl (covS_box 5 rfl covS_nil)))) rfl rfl ?_
    rintro W70 hm69 hg71
    rw [sameR_self]
    have HM72 := Lib.hid hm69
    clear hm69
    simp only [Act.put, List.setIfInBounds_toArray, List.set_cons_succ, List.set_cons_zero]
    refine wpS_this [24, 25, 26] rfl (by kernel_rfl) (by simp only [pickL, nthL, List.cons_append, List.nil_append]; rfl) ?_
    repeat (go_big_quiet_step (fail))
    refine wpQuiet_nil ?_
    refine wpS_loadA (i := 27) (d := some 45) (cells := rgC (a) (.slice pa a.p.2.2.length ca)) rfl (by rfl) rfl rfl (HM72.out.sub 11 rfl (fun k u h => by rw [Nat.zero_add]; exact h)) Try.underlying30 rfl (by kernel_rfl) rfl ?_
    simp only [Act.put, List.setIfInBounds_toArray, List.set_cons_succ, List.set_cons_zero]
    refine wpS_loadA (i := 28) (d := some 46) (cells := rgC (x) (.slice px x.p.2.2.length cx)) rfl (by rfl) rfl rfl (HM72.out.sub 7 rfl (fun k u h => by rw [Nat.zero_add]; exact h)) Try.underlying30 rfl (by kernel_rfl) rfl ?_
    simp only [Act.put, List.setIfInBounds_toArray, List.set_cons_succ, List.set_cons_zero]
    refine wpS_does2 (i := 29) (d := some 47) (rem := [_, _, _, _, _, _, _, _, _, _]) (out := [_, _, _, _, _, _, _, _, _, _, _, _]) rfl (by rfl) rfl Try.call12 (Does.ofList (gbelow_d (listT [_, _]) _ a (srcL 1 rfl (srcOld ha)) la _ x (srcL 0 rfl rowT_reads) lx)) rfl rfl HM72.out [5, 1] rfl (covS_box 9 rfl (covS_box 8 rfl (covS_box 7 rfl (covS_box 5 rfl covS_nil)))) rfl rfl ?_
    rintro W74 hm73 hg75
    rw [hbx.out]
    have HM76 := Lib.hid hm73
    clear hm73
    simp only [Act.put, List.setIfInBounds_toArray, List.set_cons_succ, List.set_cons_zero]
    refine wpS_this [30, 31, 32] rfl (by kernel_rfl) (by simp only [pickL, nthL, List.cons_append, List.nil_append]; rfl) ?_
    repeat (go_big_quiet_step (fail))
    refine wpQuiet_nil ?_
    refine wpS_loadA (i := 33) (d := some 51) (cells := rgC (b) (.slice pb b.p.2.2.length cb)) rfl (by rfl) rfl rfl (HM76.out.sub 10 rfl (fun k u h => by rw [Nat.zero_add]; exact h)) Try.underlying30 rfl (by kernel_rfl) rfl ?_
    simp only [Act.put, List.setIfInBounds_toArray, List.set_cons_succ, List.set_cons_zero]
    refine wpS_loadA (i := 34) (d := some 52) (cells := rgC (x) (.slice px x.p.2.2.length cx)) rfl (by rfl) rfl rfl (HM76.out.sub 7 rfl (fun k u h => by rw [Nat.zero_add]; exact h)) Try.underlying30 rfl (by kernel_rfl) rfl ?_
    simp only [Act.put, List.setIfInBounds_toArray, List.set_cons_succ, List.set_cons_zero]
    refine wpS_does2 (i := 35) (d := some 53) (rem := [_, _, _, _, _, _, _, _, _, _]) (out := [_, _, _, _, _, _, _, _, _, _, _, _]) rfl (by rfl) rfl Try.call12 (Does.ofList (gbelow_d (listT [_, _]) _ b (srcL 1 rfl (srcOld hb)) lb _ x (srcL 0 rfl rowT_reads) lx)) rfl rfl HM76.out [0, 0] rfl (covS_box 9 rfl (covS_box 8 rfl (covS_box 7 rfl (covS_box 5 rfl covS_nil)))) rfl rfl ?_
    rintro W78 hm77 hg79
    rw [hby.out]
    have HM80 := Lib.hid hm77
    clear hm77
    simp only [Act.put, List.setIfInBounds_toArray, List.set_cons_succ, List.set_cons_zero]
    refine wpS_this [36, 37] rfl (by kernel_rfl) (by simp only [pickL, nthL, List.cons_append, List.nil_append]; rfl) ?_
    repeat (go_big_quiet_step (fail))
    refine wpQuiet_nil ?_
    refine wpS_nil ?_
    refine then_normal ?_
    refine wp_cond_false rfl ?_
    refine wp_skip ?_
    refine then_normal ?_
    refine wp_seq ?_
    refine wp_seq ?_
    rcases Bool.eq_false_or_eq_true (belowR a c) with hac | hac
    · have hxc' : belowR x c = belowR b c := by rw [← hx.out]; exact (below_lub hac).symm
      obtain ⟨q, hq'⟩ := bool_letter (belowR b c)
      rw [hq'] at hxc'
      have hxc := Lib.hid hxc'
      clear hxc'
      have hq := Lib.hid hq'
      clear hq'
      have gq : (q != q) = false := bne_self_eq_false _
      replace hac := Lib.hid hac
      refine wp_region_M (fun k => k ∈ ([b3, b7, b11, b28] : List Nat)) [(0, 1), (1, 1), (2, 3), (3, 1), (4, 1), (5, 1), (7, 2), (8, 2), (6, 3), (9, 3), (10, 1), (11, 1)] (by kernel_rfl) (by kernel_rfl) HM80.out ?_
      intro W81 hm82
      have HM83 := Lib.hid hm82
      clear hm82
      refine wpS_loadA (i := 0) (d := some 56) (cells := rgC (a) (.slice pa a.p.2.2.length ca)) rfl (by rfl) rfl rfl (HM83.out.sub 11 rfl (fun k u h => by rw [Nat.zero_add]; exact h)) Try.underlying30 rfl (by kernel_rfl) rfl ?_
      simp only [Act.put, List.setIfInBounds_toArray, List.set_cons_succ, List.set_cons_zero]
      refine wpS_loadA (i := 1) (d := some 57) (cells := rgC (c) (.slice pc c.p.2.2.length cc)) rfl (by rfl) rfl rfl (HM83.out.sub 9 rfl (fun k u h => by rw [Nat.zero_add]; exact h)) Try.underlying30 rfl (by kernel_rfl) rfl ?_
      simp only [Act.put, List.setIfInBounds_toArray, List.set_cons_succ, List.set_cons_zero]
      refine wpS_does2 (i := 2) (d := some 58) (rem := [_, _, _, _, _, _, _, _, _, _, _]) (out := [_, _, _, _, _, _, _, _, _, _, _, _]) rfl (by rfl) rfl Try.call12 (gbelow_d (oldT W0) _ a (srcOld ha) la _ c (srcOld hc) lc) rfl rfl HM83.out [1] rfl (covS_box 10 rfl (covS_box 9 rfl (covS_box 8 rfl (covS_box 6 rfl covS_nil)))) rfl rfl ?_
      rintro W85 hm84 hg86
      rw [hac.out]
      have HM87 := Lib.hid hm84
      clear hm84
      simp only [Act.put, List.setIfInBounds_toArray, List.set_cons_succ, List.set_cons_zero]
      refine wpS_this [3] rfl (by kernel_rfl) (by simp only [pickL, nthL, List.cons_append, List.nil_append]; rfl) ?_
      repeat (go_big_quiet_step (fail))
      refine wpQuiet_nil ?_
      refine wpS_loadA (i := 4) (d := some 60) (cells := rgC (b) (.slice pb b.p.2.2.length cb)) rfl (by rfl) rfl rfl (HM87.out.sub 10 rfl (fun k u h => by rw [Nat.zero_add]; exact h)) Try.underlying30 rfl (by kernel_rfl) rfl ?_
      simp only [Act.put, List.setIfInBounds_toArray, List.set_cons_succ, List.set_cons_zero]
      refine wpS_loadA (i := 5) (d := some 61) (cells := rgC (c) (.slice pc c.p.2.2.length cc)) rfl (by rfl) rfl rfl (HM87.out.sub 9 rfl (fun k u h => by rw [Nat.zero_add]; exact h)) Try.underlying30 rfl (by kernel_rfl) rfl ?_
      simp only [Act.put, List.setIfInBounds_toArray, List.set_cons_succ, List.set_cons_zero]
      refine wpS_loadA2 (i := 7) (d := some 63) (cells := rgC (x) (.slice px x.p.2.2.length cx)) rfl (by rfl) rfl rfl (by simp) (HM87.out.sub 7 rfl (fun k u h => by rw [Nat.zero_add]; exact h)) Try.underlying30 rfl (by kernel_rfl) rfl ?_
      simp only [Act.put, List.setIfInBounds_toArray, List.set_cons_succ, List.set_cons_zero]
      refine wpS_loadA2 (i := 8) (d := some 64) (cells := rgC (c) (.slice pc c.p.2.2.length cc)) rfl (by rfl) rfl rfl (by simp) (HM87.out.sub 9 rfl (fun k u h => by rw [Nat.zero_add]; exact h)) Try.underlying30 rfl (by kernel_rfl) rfl ?_
      simp only [Act.put, List.setIfInBounds_toArray, List.set_cons_succ, List.set_cons_zero]
      refine wpS_does2 (i := 6) (d := some 62) (rem := [_, _, _, _, _, _, _, _, _, _, _]) (out := [_, _, _, _, _, _, _, _, _, _, _, _]) rfl (by rfl) rfl Try.call12 (gbelow_d (oldT W0) _ b (srcOld hb) lb _ c (srcOld hc) lc) rfl rfl HM87.out [0] rfl (covS_box 10 rfl (covS_box 9 rfl (covS_box 8 rfl (covS_box 6 rfl covS_nil)))) rfl rfl ?_
      rintro W89 hm88 hg90
      rw [hq.out]
      have HM91 := Lib.hid hm88
      clear hm88
      simp only [Act.put, List.setIfInBounds_toArray, List.set_cons_succ, List.set_cons_zero]
      refine wpS_does2 (i := 9) (d := some 65) (rem := [_, _, _, _, _, _, _, _, _, _]) (out := [_, _, _, _, _, _, _, _, _, _, _, _]) rfl (by rfl) rfl Try.call12 (Does.ofList (gbelow_d (listT [_, _]) _ x (srcL 0 rfl rowT_reads) lx _ c (srcL 1 rfl (srcOld hc)) lc)) rfl rfl HM91.out [1, 0] rfl (covS_box 9 rfl (covS_box 8 rfl (covS_box 7 rfl (covS_box 5 rfl covS_nil)))) rfl rfl ?_
      rintro W93 hm92 hg94
      rw [hxc.out]
      have HM95 := Lib.hid hm92
      clear hm92
      simp only [Act.put, List.setIfInBounds_toArray, List.set_cons_succ, List.set_cons_zero]
      refine wpS_this [10, 11] rfl (by kernel_rfl) (by simp only [pickL, nthL, List.cons_append, List.nil_append]; rfl) ?_
      repeat (go_big_quiet_step (fail))
      refine wpQuiet_nil ?_
      refine wpS_nil ?_
      refine then_normal ?_
      refine wp_cond_false rfl ?_
      refine wp_skip ?_
      refine then_normal ?_
      refine wp_seq ?_
      refine wp_seq ?_
      rcases (show belowR a b = false ∨ (belowR a b = true ∧ belowR b c = false) ∨ (belowR a b = true ∧ belowR b c = true) from by cases belowR a b <;> cases belowR b c <;> simp) with hab | ⟨hab, hbc⟩ | ⟨hab, hbc⟩
      · replace hab := Lib.hid hab
        refine wp_region_M (fun k => k ∈ ([b3, b7, b11, b28] : List Nat)) [(0, 1), (1, 1), (2, 3), (3, 1), (4, 1), (5, 1), (6, 3), (7, 1), (8, 1), (9, 1), (10, 1), (11, 3), (12, 1), (13, 1), (14, 1), (15, 1), (16, 1), (17, 3), (18, 1), (19, 1), (20, 1), (22, 2), (23, 2), (21, 3), (24, 3), (25, 1), (26, 1), (27, 1)] (by kernel_rfl) (by kernel_rfl) HM95.out ?_
        intro W96 hm97
        have HM98 := Lib.hid hm97
        clear hm97
        refine wpS_loadA (i := 0) (d := some 68) (cells := rgC (a) (.slice pa a.p.2.2.length ca)) rfl (by rfl) rfl rfl (HM98.out.sub 11 rfl (fun k u h => by rw [Nat.zero_add]; exact h)) Try.underlying30 rfl (by kernel_rfl) rfl ?_
        simp only [Act.put, List.setIfInBounds_toArray, List.set_cons_succ, List.set_cons_zero]
        refine wpS_loadA (i := 1) (d := some 69) (cells := rgC (b) (.slice pb b.p.2.2.length cb)) rfl (by rfl) rfl rfl (HM98.out.sub 10 rfl (fun k u h => by rw [Nat.zero_add]; exact h)) Try.underlying30 rfl (by kernel_rfl) rfl ?_
        simp only [Act.put, List.setIfInBounds_toArray, List.set_cons_succ, List.set_cons_zero]
        refine wpS_does2 (i := 2) (d := some 70) (rem := [_, _, _, _, _, _, _, _, _, _, _]) (out := [_, _, _, _, _, _, _, _, _, _, _, _]) rfl (by rfl) rfl Try.call12 (gbelow_d (oldT W0) _ a (srcOld ha) la _ b (srcOld hb) lb) rfl rfl HM98.out [1] rfl (covS_box 10 rfl (covS_box 9 rfl (covS_box 8 rfl (covS_box 6 rfl covS_nil)))) rfl rfl ?_
        rintro W100 hm99 hg101
        rw [hab.out]
        have HM102 := Lib.hid hm99
        clear hm99
        simp only [Act.put, List.setIfInBounds_toArray, List.set_cons_succ, List.set_cons_zero]
        refine wpS_this [3] rfl (by kernel_rfl) (by simp only [pickL, nthL, List.cons_append, List.nil_append]; rfl) ?_
        repeat (go_big_quiet_step (fail))
        refine wpQuiet_nil ?_
        refine wpS_skip (i := 4) (d := some 72) rfl (by rfl) rfl ?_
        simp only [Act.put, List.setIfInBounds_toArray, List.set_cons_succ, List.set_cons_zero]
        refine wpS_skip (i := 5) (d := some 73) rfl (by rfl) rfl ?_
        simp only [Act.put, List.setIfInBounds_toArray, List.set_cons_succ, List.set_cons_zero]
        refine wpS_skip (i := 6) (d := some 74) rfl (by rfl) rfl ?_
        simp only [Act.put, List.setIfInBounds_toArray, List.set_cons_succ, List.set_cons_zero]
        refine wpS_this [7, 8] rfl (by kernel_rfl) (by simp only [pickL, nthL, List.cons_append, List.nil_append]; rfl) ?_
        repeat (go_big_quiet_step (fail))
        refine wpQuiet_nil ?_
        refine wpS_skip (i := 9) (d := some 77) rfl (by rfl) rfl ?_
        simp only [Act.put, List.setIfInBounds_toArray, List.set_cons_succ, List.set_cons_zero]
        refine wpS_skip (i := 10) (d := some 78) rfl (by rfl) rfl ?_
        simp only [Act.put, List.setIfInBounds_toArray, List.set_cons_succ, List.set_cons_zero]
        refine wpS_skip (i := 11) (d := some 79) rfl (by rfl) rfl ?_
        simp only [Act.put, List.setIfInBounds_toArray, List.set_cons_succ, List.set_cons_zero]
        refine wpS_this [12, 13, 14] rfl (by kernel_rfl) (by simp only [pickL, nthL, List.cons_append, List.nil_append]; rfl) ?_
        repeat (go_big_quiet_step (fail))
        refine wpQuiet_nil ?_
        refine wpS_loadA (i := 15) (d := some 83) (cells := rgC (a) (.slice pa a.p.2.2.length ca)) rfl (by rfl) rfl rfl (HM102.out.sub 11 rfl (fun k u h => by rw [Nat.zero_add]; exact h)) Try.underlying30 rfl (by kernel_rfl) rfl ?_
        simp only [Act.put, List.setIfInBounds_toArray, List.set_cons_succ, List.set_cons_zero]
        refine wpS_loadA (i := 16) (d := some 84) (cells := rgC (b) (.slice pb b.p.2.2.length cb)) rfl (by rfl) rfl rfl (HM102.out.sub 10 rfl (fun k u h => by rw [Nat.zero_add]; exact h)) Try.underlying30 rfl (by kernel_rfl) rfl ?_
        simp only [Act.put, List.setIfInBounds_toArray, List.set_cons_succ, List.set_cons_zero]
        refine wpS_does2 (i := 17) (d := some 85) (rem := [_, _, _, _, _, _, _, _, _, _, _]) (out := [_, _, _, _, _, _, _, _, _, _, _, _]) rfl (by rfl) rfl Try.call12 (gbelow_d (oldT W0) _ a (srcOld ha) la _ b (srcOld hb) lb) rfl rfl HM102.out [0] rfl (covS_box 10 rfl (covS_box 9 rfl (covS_box 8 rfl (covS_box 6 rfl covS_nil)))) rfl rfl ?_
        rintro W104 hm103 hg105
        rw [hab.out]
        have HM106 := Lib.hid hm103
        clear hm103
        simp only [Act.put, List.setIfInBounds_toArray, List.set_cons_succ, List.set_cons_zero]
        refine wpS_this [18] rfl (by kernel_rfl) (by simp only [pickL, nthL, List.cons_append, List.nil_append]; rfl) ?_
        repeat (go_big_quiet_step (fail))
        refine wpQuiet_nil ?_
        refine wpS_skip (i := 19) (d := some 87) rfl (by rfl) rfl ?_
        simp only [Act.put, List.setIfInBounds_toArray, List.set_cons_succ, List.set_cons_zero]
        refine wpS_skip (i := 20) (d := some 88) rfl (by rfl) rfl ?_
        simp only [Act.put, List.setIfInBounds_toArray, List.set_cons_succ, List.set_cons_zero]
        refine wpS_skip (i := 22) (d := some 90) rfl (by rfl) rfl ?_
        simp only [Act.put, List.setIfInBounds_toArray, List.set_cons_succ, List.set_cons_zero]
        refine wpS_skip (i := 23) (d := some 91) rfl (by rfl) rfl ?_
        simp only [Act.put, List.setIfInBounds_toArray, List.set_cons_succ, List.set_cons_zero]
        refine wpS_skip (i := 21) (d := some 89) rfl (by rfl) rfl ?_
        simp only [Act.put, List.setIfInBounds_toArray, List.set_cons_succ, List.set_cons_zero]
        refine wpS_skip (i := 24) (d := some 92) rfl (by rfl) rfl ?_
        simp only [Act.put, List.setIfInBounds_toArray, List.set_cons_succ, List.set_cons_zero]
        refine wpS_this [25, 26, 27] rfl (by kernel_rfl) (by simp only [pickL, nthL, List.cons_append, List.nil_append]; rfl) ?_
        repeat (go_big_quiet_step (fail))
        refine wpQuiet_nil ?_
        refine wpS_nil ?_
        refine then_normal ?_
        refine wp_cond_false rfl ?_
        refine wp_skip ?_
        refine then_normal ?_
        refine wp_seq ?_
        rcases (show mayR a = false ∨ (mayR a = true ∧ mayR b = false) ∨ (mayR a = true ∧ mayR b = true) from by cases mayR a <;> cases mayR b <;> simp) with hma | ⟨hma, hmb⟩ | ⟨hma, hmb⟩
        · replace hma := Lib.hid hma
          refine wp_region_M (fun k => k ∈ ([b3, b7, b11, b28] : List Nat)) [(0, 1), (1, 3), (2, 1), (3, 1), (4, 1), (5, 3), (6, 1), (7, 1), (8, 1), (9, 1), (10, 3), (11, 1), (12, 1), (13, 1), (14, 1), (16, 2), (17, 2), (15, 3), (18, 3), (19, 1), (20, 1), (21, 1), (22, 3), (23, 1), (24, 1)] (by kernel_rfl) (by kernel_rfl) HM106.out ?_
          intro W107 hm108
          have HM109 := Lib.hid hm108
          clear hm108
          refine wpS_loadA (i := 0) (d := some 96) (cells := rgC (a) (.slice pa a.p.2.2.length ca)) rfl (by rfl) rfl rfl (HM109.out.sub 11 rfl (fun k u h => by rw [Nat.zero_add]; exact h)) Try.underlying30 rfl (by kernel_rfl) rfl ?_
          simp only [Act.put, List.setIfInBounds_toArray, List.set_cons_succ, List.set_cons_zero]
          refine wpS_does1 (i := 1) (d := some 97) (rem := [_, _, _, _, _, _, _, _, _, _, _]) (out := [_, _, _, _, _, _, _, _, _, _, _, _]) rfl (by rfl) rfl Try.call13 (gmay_d (oldT W0) _ a (srcOld ha) la) rfl HM109.out [0] rfl (covS_box 10 rfl (covS_box 9 rfl (covS_box 8 rfl (covS_box 6 rfl covS_nil)))) rfl rfl ?_
          rintro W111 hm110 hg112
          rw [hma.out]
          have HM113 := Lib.hid hm110
          clear hm110
          simp only [Act.put, List.setIfInBounds_toArray, List.set_cons_succ, List.set_cons_zero]
          refine wpS_this [2, 3] rfl (by kernel_rfl) (by simp only [pickL, nthL, List.cons_append, List.nil_append]; rfl) ?_
          repeat (go_big_quiet_step (fail))
          refine wpQuiet_nil ?_
          refine wpS_skip (i := 4) (d := some 100) rfl (by rfl) rfl ?_
          simp only [Act.put, List.setIfInBounds_toArray, List.set_cons_succ, List.set_cons_zero]
          refine wpS_skip (i := 5) (d := some 101) rfl (by rfl) rfl ?_
          simp only [Act.put, List.setIfInBounds_toArray, List.set_cons_succ, List.set_cons_zero]
          refine wpS_this [6, 7, 8] rfl (by kernel_rfl) (by simp only [pickL, nthL, List.cons_append, List.nil_append]; rfl) ?_
          repeat (go_big_quiet_step (fail))
          refine wpQuiet_nil ?_
          refine wpS_skip (i := 9) (d := some 105) rfl (by rfl) rfl ?_
          simp only [Act.put, List.setIfInBounds_toArray, List.set_cons_succ, List.set_cons_zero]
          refine wpS_skip (i := 10) (d := some 106) rfl (by rfl) rfl ?_
          simp only [Act.put, List.setIfInBounds_toArray, List.set_cons_succ, List.set_cons_zero]
          refine wpS_this [11, 12] rfl (by kernel_rfl) (by simp only [pickL, nthL, List.cons_append, List.nil_append]; rfl) ?_
          repeat (go_big_quiet_step (fail))
          refine wpQuiet_nil ?_
          refine wpS_loadA (i := 13) (d := some 109) (cells := rgC (a) (.slice pa a.p.2.2.length ca)) rfl (by rfl) rfl rfl (HM113.out.sub 11 rfl (fun k u h => by rw [Nat.zero_add]; exact h)) Try.underlying30 rfl (by kernel_rfl) rfl ?_
          simp only [Act.put, List.setIfInBounds_toArray, List.set_cons_succ, List.set_cons_zero]
          refine wpS_loadA (i := 14) (d := some 110) (cells := rgC (b) (.slice pb b.p.2.2.length cb)) rfl (by rfl) rfl rfl (HM113.out.sub 10 rfl (fun k u h => by rw [Nat.zero_add]; exact h)) Try.underlying30 rfl (by kernel_rfl) rfl ?_
          simp only [Act.put, List.setIfInBounds_toArray, List.set_cons_succ, List.set_cons_zero]
          refine wpS_loadA2 (i := 16) (d := some 112) (cells := rgC (a) (.slice pa a.p.2.2.length ca)) rfl (by rfl) rfl rfl (by simp) (HM113.out.sub 11 rfl (fun k u h => by rw [Nat.zero_add]; exact h)) Try.underlying30 rfl (by kernel_rfl) rfl ?_
          simp only [Act.put, List.setIfInBounds_toArray, List.set_cons_succ, List.set_cons_zero]
          refine wpS_loadA2 (i := 17) (d := some 113) (cells := rgC (b) (.slice pb b.p.2.2.length cb)) rfl (by rfl) rfl rfl (by simp) (HM113.out.sub 10 rfl (fun k u h => by rw [Nat.zero_add]; exact h)) Try.underlying30 rfl (by kernel_rfl) rfl ?_
          simp only [Act.put, List.setIfInBounds_toArray, List.set_cons_succ, List.set_cons_zero]
          refine wpS_does2 (i := 15) (d := some 111) (rem := [_, _, _, _, _, _, _, _, _, _, _]) (out := [_, _, _, _, _, _, _, _, _, _, _, _]) rfl (by rfl) rfl Try.call11 (gsame_d (oldT W0) _ a (srcOld ha) la _ b (srcOld hb) lb) rfl rfl HM113.out [0] rfl (covS_box 10 rfl (covS_box 9 rfl (covS_box 8 rfl (covS_box 6 rfl covS_nil)))) rfl rfl ?_
          rintro W115 hm114 hg116
          rw [hs.out]
          have HM117 := Lib.hid hm114
          clear hm114
          simp only [Act.put, List.setIfInBounds_toArray, List.set_cons_succ, List.set_cons_zero]
          refine wpS_does2 (i := 18) (d := some 114) (rem := [_, _, _, _, _, _, _, _, _, _, _]) (out := [_, _, _, _, _, _, _, _, _, _, _, _]) rfl (by rfl) rfl Try.call14 (rsame_d (oldT W0) _ a (srcOld ha) la _ b (srcOld hb) lb) rfl rfl HM117.out [0] rfl (covS_box 10 rfl (covS_box 9 rfl (covS_box 8 rfl (covS_box 6 rfl covS_nil)))) rfl rfl ?_
          rintro W119 hm118 hg120
          rw [hs.out]
          have HM121 := Lib.hid hm118
          clear hm118
          simp only [Act.put, List.setIfInBounds_toArray, List.set_cons_succ, List.set_cons_zero]
          refine wpS_this [19, 20, 21] rfl (by kernel_rfl) (by simp only [pickL, nthL, List.cons_append, List.nil_append]; rfl) ?_
          repeat (go_big_quiet_step (fail))
          refine wpQuiet_nil ?_
          refine wpS_does0 (i := 22) (d := some 118) (rem := [_, _, _, _, _, _, _, _, _, _, _, _]) (out := [_, _, _, _, _, _, _, _, _, _, _, _]) rfl (by rfl) rfl Try.call9 (gawake_d)  HM121.out [] rfl (covS_box 11 rfl (covS_box 10 rfl (covS_box 9 rfl (covS_box 7 rfl covS_nil)))) rfl rfl ?_
          rintro W123 hm122 hg124
          have HM125 := Lib.hid hm122
          clear hm122
          simp only [Act.put, List.setIfInBounds_toArray, List.set_cons_succ, List.set_cons_zero]
          refine wpS_this [23, 24] rfl (by kernel_rfl) (by simp only [pickL, nthL, List.cons_append, List.nil_append]; rfl) ?_
          repeat (go_big_quiet_step (fail))
          refine wpQuiet_nil ?_
          refine wpS_nil ?_
          refine then_normal ?_
          refine wp_ret ?_
          refine bodyPost_ret (results_tmp rfl _ _ _) rfl ?_
          exact does_ret (Mem.only (M := [_]) HM125.out [0] rfl) rfl rfl
        · replace hma := Lib.hid hma
          replace hmb := Lib.hid hmb
          refine wp_region_M (fun k => k ∈ ([b3, b7, b11, b28] : List Nat)) [(0, 1), (1, 3), (2, 1), (3, 1), (4, 1), (5, 3), (6, 1), (7, 1), (8, 1), (9, 1), (10, 3), (11, 1), (12, 1), (13, 1), (14, 1), (16, 2), (17, 2), (15, 3), (18, 3), (19, 1), (20, 1), (21, 1), (22, 3), (23, 1), (24, 1)] (by kernel_rfl) (by kernel_rfl) HM106.out ?_
          intro W126 hm127
          have HM128 := Lib.hid hm127
          clear hm127
          refine wpS_loadA (i := 0) (d := some 96) (cells := rgC (a) (.slice pa a.p.2.2.length ca)) rfl (by rfl) rfl rfl (HM128.out.sub 11 rfl (fun k u h => by rw [Nat.zero_add]; exact h)) Try.underlying30 rfl (by kernel_rfl) rfl ?_
          simp only [Act.put, List.setIfInBounds_toArray, List.set_cons_succ, List.set_cons_zero]
          refine wpS_does1 (i := 1) (d := some 97) (rem := [_, _, _, _, _, _, _, _, _, _, _]) (out := [_, _, _, _, _, _, _, _, _, _, _, _]) rfl (by rfl) rfl Try.call13 (gmay_d (oldT W0) _ a (srcOld ha) la) rfl HM128.out [0] rfl (covS_box 10 rfl (covS_box 9 rfl (covS_box 8 rfl (covS_box 6 rfl covS_nil)))) rfl rfl ?_
          rintro W130 hm129 hg131
          rw [hma.out]
          have HM132 := Lib.hid hm129
          clear hm129
          simp only [Act.put, List.setIfInBounds_toArray, List.set_cons_succ, List.set_cons_zero]
          refine wpS_this [2, 3] rfl (by kernel_rfl) (by simp only [pickL, nthL, List.cons_append, List.nil_append]; rfl) ?_
          repeat (go_big_quiet_step (fail))
          refine wpQuiet_nil ?_
          refine wpS_loadA (i := 4) (d := some 100) (cells := rgC (b) (.slice pb b.p.2.2.length cb)) rfl (by rfl) rfl rfl (HM132.out.sub 10 rfl (fun k u h => by rw [Nat.zero_add]; exact h)) Try.underlying30 rfl (by kernel_rfl) rfl ?_
          simp only [Act.put, List.setIfInBounds_toArray, List.set_cons_succ, List.set_cons_zero]
          refine wpS_does1 (i := 5) (d := some 101) (rem := [_, _, _, _, _, _, _, _, _, _, _]) (out := [_, _, _, _, _, _, _, _, _, _, _, _]) rfl (by rfl) rfl Try.call13 (gmay_d (oldT W0) _ b (srcOld hb) lb) rfl HM132.out [0] rfl (covS_box 10 rfl (covS_box 9 rfl (covS_box 8 rfl (covS_box 6 rfl covS_nil)))) rfl rfl ?_
          rintro W134 hm133 hg135
          rw [hmb.out]
          have HM136 := Lib.hid hm133
          clear hm133
          simp only [Act.put, List.setIfInBounds_toArray, List.set_cons_succ, List.set_cons_zero]
          refine wpS_this [6, 7, 8] rfl (by kernel_rfl) (by simp only [pickL, nthL, List.cons_append, List.nil_append]; rfl) ?_
          repeat (go_big_quiet_step (fail))
          refine wpQuiet_nil ?_
          refine wpS_skip (i := 9) (d := some 105) rfl (by rfl) rfl ?_
          simp only [Act.put, List.setIfInBounds_toArray, List.set_cons_succ, List.set_cons_zero]
          refine wpS_skip (i := 10) (d := some 106) rfl (by rfl) rfl ?_
          simp only [Act.put, List.setIfInBounds_toArray, List.set_cons_succ, List.set_cons_zero]
          refine wpS_this [11, 12] rfl (by kernel_rfl) (by simp only [pickL, nthL, List.cons_append, List.nil_append]; rfl) ?_
          repeat (go_big_quiet_step (fail))
          refine wpQuiet_nil ?_
          refine wpS_loadA (i := 13) (d := some 109) (cells := rgC (a) (.slice pa a.p.2.2.length ca)) rfl (by rfl) rfl rfl (HM136.out.sub 11 rfl (fun k u h => by rw [Nat.zero_add]; exact h)) Try.underlying30 rfl (by kernel_rfl) rfl ?_
          simp only [Act.put, List.setIfInBounds_toArray, List.set_cons_succ, List.set_cons_zero]
          refine wpS_loadA (i := 14) (d := some 110) (cells := rgC (b) (.slice pb b.p.2.2.length cb)) rfl (by rfl) rfl rfl (HM136.out.sub 10 rfl (fun k u h => by rw [Nat.zero_add]; exact h)) Try.underlying30 rfl (by kernel_rfl) rfl ?_
          simp only [Act.put, List.setIfInBounds_toArray, List.set_cons_succ, List.set_cons_zero]
          refine wpS_loadA2 (i := 16) (d := some 112) (cells := rgC (a) (.slice pa a.p.2.2.length ca)) rfl (by rfl) rfl rfl (by simp) (HM136.out.sub 11 rfl (fun k u h => by rw [Nat.zero_add]; exact h)) Try.underlying30 rfl (by kernel_rfl) rfl ?_
          simp only [Act.put, List.setIfInBounds_toArray, List.set_cons_succ, List.set_cons_zero]
          refine wpS_loadA2 (i := 17) (d := some 113) (cells := rgC (b) (.slice pb b.p.2.2.length cb)) rfl (by rfl) rfl rfl (by simp) (HM136.out.sub 10 rfl (fun k u h => by rw [Nat.zero_add]; exact h)) Try.underlying30 rfl (by kernel_rfl) rfl ?_
          simp only [Act.put, List.setIfInBounds_toArray, List.set_cons_succ, List.set_cons_zero]
          refine wpS_does2 (i := 15) (d := some 111) (rem := [_, _, _, _, _, _, _, _, _, _, _]) (out := [_, _, _, _, _, _, _, _, _, _, _, _]) rfl (by rfl) rfl Try.call11 (gsame_d (oldT W0) _ a (srcOld ha) la _ b (srcOld hb) lb) rfl rfl HM136.out [0] rfl (covS_box 10 rfl (covS_box 9 rfl (covS_box 8 rfl (covS_box 6 rfl covS_nil)))) rfl rfl ?_
          rintro W138 hm137 hg139
          rw [hs.out]
          have HM140 := Lib.hid hm137
          clear hm137
          simp only [Act.put, List.setIfInBounds_toArray, List.set_cons_succ, List.set_cons_zero]
          refine wpS_does2 (i := 18) (d := some 114) (rem := [_, _, _, _, _, _, _, _, _, _, _]) (out := [_, _, _, _, _, _, _, _, _, _, _, _]) rfl (by rfl) rfl Try.call14 (rsame_d (oldT W0) _ a (srcOld ha) la _ b (srcOld hb) lb) rfl rfl HM140.out [0] rfl (covS_box 10 rfl (covS_box 9 rfl (covS_box 8 rfl (covS_box 6 rfl covS_nil)))) rfl rfl ?_
          rintro W142 hm141 hg143
          rw [hs.out]
          have HM144 := Lib.hid hm141
          clear hm141
          simp only [Act.put, List.setIfInBounds_toArray, List.set_cons_succ, List.set_cons_zero]
          refine wpS_this [19, 20, 21] rfl (by kernel_rfl) (by simp only [pickL, nthL, List.cons_append, List.nil_append]; rfl) ?_
          repeat (go_big_quiet_step (fail))
          refine wpQuiet_nil ?_
          refine wpS_does0 (i := 22) (d := some 118) (rem := [_, _, _, _, _, _, _, _, _, _, _, _]) (out := [_, _, _, _, _, _, _, _, _, _, _, _]) rfl (by rfl) rfl Try.call9 (gawake_d)  HM144.out [] rfl (covS_box 11 rfl (covS_box 10 rfl (covS_box 9 rfl (covS_box 7 rfl covS_nil)))) rfl rfl ?_
          rintro W146 hm145 hg147
          have HM148 := Lib.hid hm145
          clear hm145
          simp only [Act.put, List.setIfInBounds_toArray, List.set_cons_succ, List.set_cons_zero]
          refine wpS_this [23, 24] rfl (by kernel_rfl) (by simp only [pickL, nthL, List.cons_append, List.nil_append]; rfl) ?_
          repeat (go_big_quiet_step (fail))
          refine wpQuiet_nil ?_
          refine wpS_nil ?_
          refine then_normal ?_
          refine wp_ret ?_
          refine bodyPost_ret (results_tmp rfl _ _ _) rfl ?_
          exact does_ret (Mem.only (M := [_]) HM148.out [0] rfl) rfl rfl
        · have hmx : Hid (mayR x = true) := Lib.hid (by rw [← hx.out]; exact mayR_join hma hmb)
          replace hma := Lib.hid hma
          replace hmb := Lib.hid hmb
          refine wp_region_M (fun k => k ∈ ([b3, b7, b11, b28] : List Nat)) [(0, 1), (1, 3), (2, 1), (3, 1), (4, 1), (5, 3), (6, 1), (7, 1), (8, 1), (9, 1), (10, 3), (11, 1), (12, 1), (13, 1), (14, 1), (16, 2), (17, 2), (15, 3), (18, 3), (19, 1), (20, 1), (21, 1), (22, 3), (23, 1), (24, 1)] (by kernel_rfl) (by kernel_rfl) HM106.out ?_
          intro W149 hm150
          have HM151 := Lib.hid hm150
          clear hm150
          refine wpS_loadA (i := 0) (d := some 96) (cells := rgC (a) (.slice pa a.p.2.2.length ca)) rfl (by rfl) rfl rfl (HM151.out.sub 11 rfl (fun k u h => by rw [Nat.zero_add]; exact h)) Try.underlying30 rfl (by kernel_rfl) rfl ?_
          simp only [Act.put, List.setIfInBounds_toArray, List.set_cons_succ, List.set_cons_zero]
          refine wpS_does1 (i := 1) (d := some 97) (rem := [_, _, _, _, _, _, _, _, _, _, _]) (out := [_, _, _, _, _, _, _, _, _, _, _, _]) rfl (by rfl) rfl Try.call13 (gmay_d (oldT W0) _ a (srcOld ha) la) rfl HM151.out [0] rfl (covS_box 10 rfl (covS_box 9 rfl (covS_box 8 rfl (covS_box 6 rfl covS_nil)))) rfl rfl ?_
          rintro W153 hm152 hg154
          rw [hma.out]
          have HM155 := Lib.hid hm152
          clear hm152
          simp only [Act.put, List.setIfInBounds_toArray, List.set_cons_succ, List.set_cons_zero]
          refine wpS_this [2, 3] rfl (by kernel_rfl) (by simp only [pickL, nthL, List.cons_append, List.nil_append]; rfl) ?_
          repeat (go_big_quiet_step (fail))
          refine wpQuiet_nil ?_
          refine wpS_loadA (i := 4) (d := some 100) (cells := rgC (b) (.slice pb b.p.2.2.length cb)) rfl (by rfl) rfl rfl (HM155.out.sub 10 rfl (fun k u h => by rw [Nat.zero_add]; exact h)) Try.underlying30 rfl (by kernel_rfl) rfl ?_
          simp only [Act.put, List.setIfInBounds_toArray, List.set_cons_succ, List.set_cons_zero]
          refine wpS_does1 (i := 5) (d := some 101) (rem := [_, _, _, _, _, _, _, _, _, _, _]) (out := [_, _, _, _, _, _, _, _, _, _, _, _]) rfl (by rfl) rfl Try.call13 (gmay_d (oldT W0) _ b (srcOld hb) lb) rfl HM155.out [0] rfl (covS_box 10 rfl (covS_box 9 rfl (covS_box 8 rfl (covS_box 6 rfl covS_nil)))) rfl rfl ?_
          rintro W157 hm156 hg158
          rw [hmb.out]
          have HM159 := Lib.hid hm156
          clear hm156
          simp only [Act.put, List.setIfInBounds_toArray, List.set_cons_succ, List.set_cons_zero]
          refine wpS_this [6, 7, 8] rfl (by kernel_rfl) (by simp only [pickL, nthL, List.cons_append, List.nil_append]; rfl) ?_
          repeat (go_big_quiet_step (fail))
          refine wpQuiet_nil ?_
          refine wpS_loadA (i := 9) (d := some 105) (cells := rgC (x) (.slice px x.p.2.2.length cx)) rfl (by rfl) rfl rfl (HM159.out.sub 7 rfl (fun k u h => by rw [Nat.zero_add]; exact h)) Try.underlying30 rfl (by kernel_rfl) rfl ?_
          simp only [Act.put, List.setIfInBounds_toArray, List.set_cons_succ, List.set_cons_zero]
          refine wpS_does1 (i := 10) (d := some 106) (rem := [_, _, _, _, _, _, _, _, _, _, _]) (out := [_, _, _, _, _, _, _, _, _, _, _, _]) rfl (by rfl) rfl Try.call13 (gmay_d (rowT elemI _ _) _ x rowT_reads lx) rfl HM159.out [1] rfl (covS_box 10 rfl (covS_box 9 rfl (covS_box 8 rfl (covS_box 6 rfl covS_nil)))) rfl rfl ?_
          rintro W161 hm160 hg162
          rw [hmx.out]
          have HM163 := Lib.hid hm160
          clear hm160
          simp only [Act.put, List.setIfInBounds_toArray, List.set_cons_succ, List.set_cons_zero]
          refine wpS_this [11, 12] rfl (by kernel_rfl) (by simp only [pickL, nthL, List.cons_append, List.nil_append]; rfl) ?_
          repeat (go_big_quiet_step (fail))
          refine wpQuiet_nil ?_
          refine wpS_loadA (i := 13) (d := some 109) (cells := rgC (a) (.slice pa a.p.2.2.length ca)) rfl (by rfl) rfl rfl (HM163.out.sub 11 rfl (fun k u h => by rw [Nat.zero_add]; exact h)) Try.underlying30 rfl (by kernel_rfl) rfl ?_
          simp only [Act.put, List.setIfInBounds_toArray, List.set_cons_succ, List.set_cons_zero]
          refine wpS_loadA (i := 14) (d := some 110) (cells := rgC (b) (.slice pb b.p.2.2.length cb)) rfl (by rfl) rfl rfl (HM163.out.sub 10 rfl (fun k u h => by rw [Nat.zero_add]; exact h)) Try.underlying30 rfl (by kernel_rfl) rfl ?_
          simp only [Act.put, List.setIfInBounds_toArray, List.set_cons_succ, List.set_cons_zero]
          refine wpS_loadA2 (i := 16) (d := some 112) (cells := rgC (a) (.slice pa a.p.2.2.length ca)) rfl (by rfl) rfl rfl (by simp) (HM163.out.sub 11 rfl (fun k u h => by rw [Nat.zero_add]; exact h)) Try.underlying30 rfl (by kernel_rfl) rfl ?_
          simp only [Act.put, List.setIfInBounds_toArray, List.set_cons_succ, List.set_cons_zero]
          refine wpS_loadA2 (i := 17) (d := some 113) (cells := rgC (b) (.slice pb b.p.2.2.length cb)) rfl (by rfl) rfl rfl (by simp) (HM163.out.sub 10 rfl (fun k u h => by rw [Nat.zero_add]; exact h)) Try.underlying30 rfl (by kernel_rfl) rfl ?_
          simp only [Act.put, List.setIfInBounds_toArray, List.set_cons_succ, List.set_cons_zero]
          refine wpS_does2 (i := 15) (d := some 111) (rem := [_, _, _, _, _, _, _, _, _, _, _]) (out := [_, _, _, _, _, _, _, _, _, _, _, _]) rfl (by rfl) rfl Try.call11 (gsame_d (oldT W0) _ a (srcOld ha) la _ b (srcOld hb) lb) rfl rfl HM163.out [1] rfl (covS_box 10 rfl (covS_box 9 rfl (covS_box 8 rfl (covS_box 6 rfl covS_nil)))) rfl rfl ?_
          rintro W165 hm164 hg166
          rw [hs.out]
          have HM167 := Lib.hid hm164
          clear hm164
          simp only [Act.put, List.setIfInBounds_toArray, List.set_cons_succ, List.set_cons_zero]
          refine wpS_does2 (i := 18) (d := some 114) (rem := [_, _, _, _, _, _, _, _, _, _, _]) (out := [_, _, _, _, _, _, _, _, _, _, _, _]) rfl (by rfl) rfl Try.call14 (rsame_d (oldT W0) _ a (srcOld ha) la _ b (srcOld hb) lb) rfl rfl HM167.out [0] rfl (covS_box 10 rfl (covS_box 9 rfl (covS_box 8 rfl (covS_box 6 rfl covS_nil)))) rfl rfl ?_
          rintro W169 hm168 hg170
          rw [hs.out]
          have HM171 := Lib.hid hm168
          clear hm168
          simp only [Act.put, List.setIfInBounds_toArray, List.set_cons_succ, List.set_cons_zero]
          refine wpS_this [19, 20, 21] rfl (by kernel_rfl) (by simp only [pickL, nthL, List.cons_append, List.nil_append]; rfl) ?_
          repeat (go_big_quiet_step (fail))
          refine wpQuiet_nil ?_
          refine wpS_does0 (i := 22) (d := some 118) (rem := [_, _, _, _, _, _, _, _, _, _, _, _]) (out := [_, _, _, _, _, _, _, _, _, _, _, _]) rfl (by rfl) rfl Try.call9 (gawake_d)  HM171.out [] rfl (covS_box 11 rfl (covS_box 10 rfl (covS_box 9 rfl (covS_box 7 rfl covS_nil)))) rfl rfl ?_
          rintro W173 hm172 hg174
          have HM175 := Lib.hid hm172
          clear hm172
          simp only [Act.put, List.setIfInBounds_toArray, List.set_cons_succ, List.set_cons_zero]
          refine wpS_this [23, 24] rfl (by kernel_rfl) (by simp only [pickL, nthL, List.cons_append, List.nil_append]; rfl) ?_
          repeat (go_big_quiet_step (fail))
          refine wpQuiet_nil ?_
          refine wpS_nil ?_
          refine then_normal ?_
          refine wp_ret ?_
          refine bodyPost_ret (results_tmp rfl _ _ _) rfl ?_
          exact does_ret (Mem.only (M := [_]) HM175.out [0] rfl) rfl rfl
      · have hba' : belowR b a = s := (below_anti hab).trans hs.out
        have hba := Lib.hid hba'
        clear hba'
        replace hab := Lib.hid hab
        replace hbc := Lib.hid hbc
        refine wp_region_M (fun k => k ∈ ([b3, b7, b11, b28] : List Nat)) [(0, 1), (1, 1), (2, 3), (3, 1), (4, 1), (5, 1), (6, 3), (7, 1), (8, 1), (9, 1), (10, 1), (11, 3), (12, 1), (13, 1), (14, 1), (15, 1), (16, 1), (17, 3), (18, 1), (19, 1), (20, 1), (22, 2), (23, 2), (21, 3), (24, 3), (25, 1), (26, 1), (27, 1)] (by kernel_rfl) (by kernel_rfl) HM95.out ?_
        intro W176 hm177
        have HM178 := Lib.hid hm177
        clear hm177
        refine wpS_loadA (i := 0) (d := some 68) (cells := rgC (a) (.slice pa a.p.2.2.length ca)) rfl (by rfl) rfl rfl (HM178.out.sub 11 rfl (fun k u h => by rw [Nat.zero_add]; exact h)) Try.underlying30 rfl (by kernel_rfl) rfl ?_
        simp only [Act.put, List.setIfInBounds_toArray, List.set_cons_succ, List.set_cons_zero]
        refine wpS_loadA (i := 1) (d := some 69) (cells := rgC (b) (.slice pb b.p.2.2.length cb)) rfl (by rfl) rfl rfl (HM178.out.sub 10 rfl (fun k u h => by rw [Nat.zero_add]; exact h)) Try.underlying30 rfl (by kernel_rfl) rfl ?_
        simp only [Act.put, List.setIfInBounds_toArray, List.set_cons_succ, List.set_cons_zero]
        refine wpS_does2 (i := 2) (d := some 70) (rem := [_, _, _, _, _, _, _, _, _, _, _]) (out := [_, _, _, _, _, _, _, _, _, _, _, _]) rfl (by rfl) rfl Try.call12 (gbelow_d (oldT W0) _ a (srcOld ha) la _ b (srcOld hb) lb) rfl rfl HM178.out [1] rfl (covS_box 10 rfl (covS_box 9 rfl (covS_box 8 rfl (covS_box 6 rfl covS_nil)))) rfl rfl ?_
        rintro W180 hm179 hg181
        rw [hab.out]
        have HM182 := Lib.hid hm179
        clear hm179
        simp only [Act.put, List.setIfInBounds_toArray, List.set_cons_succ, List.set_cons_zero]
        refine wpS_this [3] rfl (by kernel_rfl) (by simp only [pickL, nthL, List.cons_append, List.nil_append]; rfl) ?_
        repeat (go_big_quiet_step (fail))
        refine wpQuiet_nil ?_
        refine wpS_loadA (i := 4) (d := some 72) (cells := rgC (b) (.slice pb b.p.2.2.length cb)) rfl (by rfl) rfl rfl (HM182.out.sub 10 rfl (fun k u h => by rw [Nat.zero_add]; exact h)) Try.underlying30 rfl (by kernel_rfl) rfl ?_
        simp only [Act.put, List.setIfInBounds_toArray, List.set_cons_succ, List.set_cons_zero]
        refine wpS_loadA (i := 5) (d := some 73) (cells := rgC (c) (.slice pc c.p.2.2.length cc)) rfl (by rfl) rfl rfl (HM182.out.sub 9 rfl (fun k u h => by rw [Nat.zero_add]; exact h)) Try.underlying30 rfl (by kernel_rfl) rfl ?_
        simp only [Act.put, List.setIfInBounds_toArray, List.set_cons_succ, List.set_cons_zero]
        refine wpS_does2 (i := 6) (d := some 74) (rem := [_, _, _, _, _, _, _, _, _, _, _]) (out := [_, _, _, _, _, _, _, _, _, _, _, _]) rfl (by rfl) rfl Try.call12 (gbelow_d (oldT W0) _ b (srcOld hb) lb _ c (srcOld hc) lc) rfl rfl HM182.out [0] rfl (covS_box 10 rfl (covS_box 9 rfl (covS_box 8 rfl (covS_box 6 rfl covS_nil)))) rfl rfl ?_
        rintro W184 hm183 hg185
        rw [hbc.out]
        have HM186 := Lib.hid hm183
        clear hm183
        simp only [Act.put, List.setIfInBounds_toArray, List.set_cons_succ, List.set_cons_zero]
        refine wpS_this [7, 8] rfl (by kernel_rfl) (by simp only [pickL, nthL, List.cons_append, List.nil_append]; rfl) ?_
        repeat (go_big_quiet_step (fail))
        refine wpQuiet_nil ?_
        refine wpS_skip (i := 9) (d := some 77) rfl (by rfl) rfl ?_
        simp only [Act.put, List.setIfInBounds_toArray, List.set_cons_succ, List.set_cons_zero]
        refine wpS_skip (i := 10) (d := some 78) rfl (by rfl) rfl ?_
        simp only [Act.put, List.setIfInBounds_toArray, List.set_cons_succ, List.set_cons_zero]
        refine wpS_skip (i := 11) (d := some 79) rfl (by rfl) rfl ?_
        simp only [Act.put, List.setIfInBounds_toArray, List.set_cons_succ, List.set_cons_zero]
        refine wpS_this [12, 13, 14] rfl (by kernel_rfl) (by simp only [pickL, nthL, List.cons_append, List.nil_append]; rfl) ?_
        repeat (go_big_quiet_step (fail))
        refine wpQuiet_nil ?_
        refine wpS_loadA (i := 15) (d := some 83) (cells := rgC (a) (.slice pa a.p.2.2.length ca)) rfl (by rfl) rfl rfl (HM186.out.sub 11 rfl (fun k u h => by rw [Nat.zero_add]; exact h)) Try.underlying30 rfl (by kernel_rfl) rfl ?_
        simp only [Act.put, List.setIfInBounds_toArray, List.set_cons_succ, List.set_cons_zero]
        refine wpS_loadA (i := 16) (d := some 84) (cells := rgC (b) (.slice pb b.p.2.2.length cb)) rfl (by rfl) rfl rfl (HM186.out.sub 10 rfl (fun k u h => by rw [Nat.zero_add]; exact h)) Try.underlying30 rfl (by kernel_rfl) rfl ?_
        simp only [Act.put, List.setIfInBounds_toArray, List.set_cons_succ, List.set_cons_zero]
        refine wpS_does2 (i := 17) (d := some 85) (rem := [_, _, _, _, _, _, _, _, _, _, _]) (out := [_, _, _, _, _, _, _, _, _, _, _, _]) rfl (by rfl) rfl Try.call12 (gbelow_d (oldT W0) _ a (srcOld ha) la _ b (srcOld hb) lb) rfl rfl HM186.out [0] rfl (covS_box 10 rfl (covS_box 9 rfl (covS_box 8 rfl (covS_box 6 rfl covS_nil)))) rfl rfl ?_
        rintro W188 hm187 hg189
        rw [hab.out]
        have HM190 := Lib.hid hm187
        clear hm187
        simp only [Act.put, List.setIfInBounds_toArray, List.set_cons_succ, List.set_cons_zero]
        refine wpS_this [18] rfl (by kernel_rfl) (by simp only [pickL, nthL, List.cons_append, List.nil_append]; rfl) ?_
        repeat (go_big_quiet_step (fail))
        refine wpQuiet_nil ?_
        refine wpS_loadA (i := 19) (d := some 87) (cells := rgC (b) (.slice pb b.p.2.2.length cb)) rfl (by rfl) rfl rfl (HM190.out.sub 10 rfl (fun k u h => by rw [Nat.zero_add]; exact h)) Try.underlying30 rfl (by kernel_rfl) rfl ?_
        simp only [Act.put, List.setIfInBounds_toArray, List.set_cons_succ, List.set_cons_zero]
        refine wpS_loadA (i := 20) (d := some 88) (cells := rgC (a) (.slice pa a.p.2.2.length ca)) rfl (by rfl) rfl rfl (HM190.out.sub 11 rfl (fun k u h => by rw [Nat.zero_add]; exact h)) Try.underlying30 rfl (by kernel_rfl) rfl ?_
        simp only [Act.put, List.setIfInBounds_toArray, List.set_cons_succ, List.set_cons_zero]
        refine wpS_loadA2 (i := 22) (d := some 90) (cells := rgC (a) (.slice pa a.p.2.2.length ca)) rfl (by rfl) rfl rfl (by simp) (HM190.out.sub 11 rfl (fun k u h => by rw [Nat.zero_add]; exact h)) Try.underlying30 rfl (by kernel_rfl) rfl ?_
        simp only [Act.put, List.setIfInBounds_toArray, List.set_cons_succ, List.set_cons_zero]
        refine wpS_loadA2 (i := 23) (d := some 91) (cells := rgC (b) (.slice pb b.p.2.2.length cb)) rfl (by rfl) rfl rfl (by simp) (HM190.out.sub 10 rfl (fun k u h => by rw [Nat.zero_add]; exact h)) Try.underlying30 rfl (by kernel_rfl) rfl ?_
        simp only [Act.put, List.setIfInBounds_toArray, List.set_cons_succ, List.set_cons_zero]
        refine wpS_does2 (i := 21) (d := some 89) (rem := [_, _, _, _, _, _, _, _, _, _, _]) (out := [_, _, _, _, _, _, _, _, _, _, _, _]) rfl (by rfl) rfl Try.call12 (gbelow_d (oldT W0) _ b (srcOld hb) lb _ a (srcOld ha) la) rfl rfl HM190.out [0] rfl (covS_box 10 rfl (covS_box 9 rfl (covS_box 8 rfl (covS_box 6 rfl covS_nil)))) rfl rfl ?_
        rintro W192 hm191 hg193
        rw [hba.out]
        have HM194 := Lib.hid hm191
        clear hm191
        simp only [Act.put, List.setIfInBounds_toArray, List.set_cons_succ, List.set_cons_zero]
        refine wpS_does2 (i := 24) (d := some 92) (rem := [_, _, _, _, _, _, _, _, _, _, _]) (out := [_, _, _, _, _, _, _, _, _, _, _, _]) rfl (by rfl) rfl Try.call11 (gsame_d (oldT W0) _ a (srcOld ha) la _ b (srcOld hb) lb) rfl rfl HM194.out [0] rfl (covS_box 10 rfl (covS_box 9 rfl (covS_box 8 rfl (covS_box 6 rfl covS_nil)))) rfl rfl ?_
        rintro W196 hm195 hg197
        rw [hs.out]
        have HM198 := Lib.hid hm195
        clear hm195
        simp only [Act.put, List.setIfInBounds_toArray, List.set_cons_succ, List.set_cons_zero]
        refine wpS_this [25, 26, 27] rfl (by kernel_rfl) (by simp only [pickL, nthL, List.cons_append, List.nil_append]; rfl) ?_
        repeat (go_big_quiet_step (fail))
        refine wpQuiet_nil ?_
        refine wpS_nil ?_
        refine then_normal ?_
        refine wp_cond_false rfl ?_
        refine wp_skip ?_
        refine then_normal ?_
        refine wp_seq ?_
        rcases (show mayR a = false ∨ (mayR a = true ∧ mayR b = false) ∨ (mayR a = true ∧ mayR b = true) from by cases mayR a <;> cases mayR b <;> simp) with hma | ⟨hma, hmb⟩ | ⟨hma, hmb⟩
        · replace hma := Lib.hid hma
          refine wp_region_M (fun k => k ∈ ([b3, b7, b11, b28] : List Nat)) [(0, 1), (1, 3), (2, 1), (3, 1), (4, 1), (5, 3), (6, 1), (7, 1), (8, 1), (9, 1), (10, 3), (11, 1), (12, 1), (13, 1), (14, 1), (16, 2), (17, 2), (15, 3), (18, 3), (19, 1), (20, 1), (21, 1), (22, 3), (23, 1), (24, 1)] (by kernel_rfl) (by kernel_rfl) HM198.out ?_
          intro W199 hm200
          have HM201 := Lib.hid hm200
          clear hm200
          refine wpS_loadA (i := 0) (d := some 96) (cells := rgC (a) (.slice pa a.p.2.2.length ca)) rfl (by rfl) rfl rfl (HM201.out.sub 11 rfl (fun k u h => by rw [Nat.zero_add]; exact h)) Try.underlying30 rfl (by kernel_rfl) rfl ?_
          simp only [Act.put, List.setIfInBounds_toArray, List.set_cons_succ, List.set_cons_zero]
          refine wpS_does1 (i := 1) (d := some 97) (rem := [_, _, _, _, _, _, _, _, _, _, _]) (out := [_, _, _, _, _, _, _, _, _, _, _, _]) rfl (by rfl) rfl Try.call13 (gmay_d (oldT W0) _ a (srcOld ha) la) rfl HM201.out [0] rfl (covS_box 10 rfl (covS_box 9 rfl (covS_box 8 rfl (covS_box 6 rfl covS_nil)))) rfl rfl ?_
          rintro W203 hm202 hg204
          rw [hma.out]
          have HM205 := Lib.hid hm202
          clear hm202
          simp only [Act.put, List.setIfInBounds_toArray, List.set_cons_succ, List.set_cons_zero]
          refine wpS_this [2, 3] rfl (by kernel_rfl) (by simp only [pickL, nthL, List.cons_append, List.nil_append]; rfl) ?_
          repeat (go_big_quiet_step (fail))
          refine wpQuiet_nil ?_
          refine wpS_skip (i := 4) (d := some 100) rfl (by rfl) rfl ?_
          simp only [Act.put, List.setIfInBounds_toArray, List.set_cons_succ, List.set_cons_zero]
          refine wpS_skip (i := 5) (d := some 101) rfl (by rfl) rfl ?_
          simp only [Act.put, List.setIfInBounds_toArray, List.set_cons_succ, List.set_cons_zero]
          refine wpS_this [6, 7, 8] rfl (by kernel_rfl) (by simp only [pickL, nthL, List.cons_append, List.nil_append]; rfl) ?_
          repeat (go_big_quiet_step (fail))
          refine wpQuiet_nil ?_
          refine wpS_skip (i := 9) (d := some 105) rfl (by rfl) rfl ?_
          simp only [Act.put, List.setIfInBounds_toArray, List.set_cons_succ, List.set_cons_zero]
          refine wpS_skip (i := 10) (d := some 106) rfl (by rfl) rfl ?_
          simp only [Act.put, List.setIfInBounds_toArray, List.set_cons_succ, List.set_cons_zero]
          refine wpS_this [11, 12] rfl (by kernel_rfl) (by simp only [pickL, nthL, List.cons_append, List.nil_append]; rfl) ?_
          repeat (go_big_quiet_step (fail))
          refine wpQuiet_nil ?_
          refine wpS_loadA (i := 13) (d := some 109) (cells := rgC (a) (.slice pa a.p.2.2.length ca)) rfl (by rfl) rfl rfl (HM205.out.sub 11 rfl (fun k u h => by rw [Nat.zero_add]; exact h)) Try.underlying30 rfl (by kernel_rfl) rfl ?_
          simp only [Act.put, List.setIfInBounds_toArray, List.set_cons_succ, List.set_cons_zero]
          refine wpS_loadA (i := 14) (d := some 110) (cells := rgC (b) (.slice pb b.p.2.2.length cb)) rfl (by rfl) rfl rfl (HM205.out.sub 10 rfl (fun k u h => by rw [Nat.zero_add]; exact h)) Try.underlying30 rfl (by kernel_rfl) rfl ?_
          simp only [Act.put, List.setIfInBounds_toArray, List.set_cons_succ, List.set_cons_zero]
          refine wpS_loadA2 (i := 16) (d := some 112) (cells := rgC (a) (.slice pa a.p.2.2.length ca)) rfl (by rfl) rfl rfl (by simp) (HM205.out.sub 11 rfl (fun k u h => by rw [Nat.zero_add]; exact h)) Try.underlying30 rfl (by kernel_rfl) rfl ?_
          simp only [Act.put, List.setIfInBounds_toArray, List.set_cons_succ, List.set_cons_zero]
          refine wpS_loadA2 (i := 17) (d := some 113) (cells := rgC (b) (.slice pb b.p.2.2.length cb)) rfl (by rfl) rfl rfl (by simp) (HM205.out.sub 10 rfl (fun k u h => by rw [Nat.zero_add]; exact h)) Try.underlying30 rfl (by kernel_rfl) rfl ?_
          simp only [Act.put, List.setIfInBounds_toArray, List.set_cons_succ, List.set_cons_zero]
          refine wpS_does2 (i := 15) (d := some 111) (rem := [_, _, _, _, _, _, _, _, _, _, _]) (out := [_, _, _, _, _, _, _, _, _, _, _, _]) rfl (by rfl) rfl Try.call11 (gsame_d (oldT W0) _ a (srcOld ha) la _ b (srcOld hb) lb) rfl rfl HM205.out [0] rfl (covS_box 10 rfl (covS_box 9 rfl (covS_box 8 rfl (covS_box 6 rfl covS_nil)))) rfl rfl ?_
          rintro W207 hm206 hg208
          rw [hs.out]
          have HM209 := Lib.hid hm206
          clear hm206
          simp only [Act.put, List.setIfInBounds_toArray, List.set_cons_succ, List.set_cons_zero]
          refine wpS_does2 (i := 18) (d := some 114) (rem := [_, _, _, _, _, _, _, _, _, _, _]) (out := [_, _, _, _, _, _, _, _, _, _, _, _]) rfl (by rfl) rfl Try.call14 (rsame_d (oldT W0) _ a (srcOld ha) la _ b (srcOld hb) lb) rfl rfl HM209.out [0] rfl (covS_box 10 rfl (covS_box 9 rfl (covS_box 8 rfl (covS_box 6 rfl covS_nil)))) rfl rfl ?_
          rintro W211 hm210 hg212
          rw [hs.out]
          have HM213 := Lib.hid hm210
          clear hm210
          simp only [Act.put, List.setIfInBounds_toArray, List.set_cons_succ, List.set_cons_zero]
          refine wpS_this [19, 20, 21] rfl (by kernel_rfl) (by simp only [pickL, nthL, List.cons_append, List.nil_append]; rfl) ?_
          repeat (go_big_quiet_step (fail))
          refine wpQuiet_nil ?_
          refine wpS_does0 (i := 22) (d := some 118) (rem := [_, _, _, _, _, _, _, _, _, _, _, _]) (out := [_, _, _, _, _, _, _, _, _, _, _, _]) rfl (by rfl) rfl Try.call9 (gawake_d)  HM213.out [] rfl (covS_box 11 rfl (covS_box 10 rfl (covS_box 9 rfl (covS_box 7 rfl covS_nil)))) rfl rfl ?_
          rintro W215 hm214 hg216
          have HM217 := Lib.hid hm214
          clear hm214
          simp only [Act.put, List.setIfInBounds_toArray, List.set_cons_succ, List.set_cons_zero]
          refine wpS_this [23, 24] rfl (by kernel_rfl) (by simp only [pickL, nthL, List.cons_append, List.nil_append]; rfl) ?_
          repeat (go_big_quiet_step (fail))
          refine wpQuiet_nil ?_
          refine wpS_nil ?_
          refine then_normal ?_
          refine wp_ret ?_
          refine bodyPost_ret (results_tmp rfl _ _ _) rfl ?_
          exact does_ret (Mem.only (M := [_]) HM217.out [0] rfl) rfl rfl
        · replace hma := Lib.hid hma
          replace hmb := Lib.hid hmb
          refine wp_region_M (fun k => k ∈ ([b3, b7, b11, b28] : List Nat)) [(0, 1), (1, 3), (2, 1), (3, 1), (4, 1), (5, 3), (6, 1), (7, 1), (8, 1), (9, 1), (10, 3), (11, 1), (12, 1), (13, 1), (14, 1), (16, 2), (17, 2), (15, 3), (18, 3), (19, 1), (20, 1), (21, 1), (22, 3), (23, 1), (24, 1)] (by kernel_rfl) (by kernel_rfl) HM198.out ?_
          intro W218 hm219
          have HM220 := Lib.hid hm219
          clear hm219
          refine wpS_loadA (i := 0) (d := some 96) (cells := rgC (a) (.slice pa a.p.2.2.length ca)) rfl (by rfl) rfl rfl (HM220.out.sub 11 rfl (fun k u h => by rw [Nat.zero_add]; exact h)) Try.underlying30 rfl (by kernel_rfl) rfl ?_
          simp only [Act.put, List.setIfInBounds_toArray, List.set_cons_succ, List.set_cons_zero]
          refine wpS_does1 (i := 1) (d := some 97) (rem := [_, _, _, _, _, _, _, _, _, _, _]) (out := [_, _, _, _, _, _, _, _, _, _, _, _]) rfl (by rfl) rfl Try.call13 (gmay_d (oldT W0) _ a (srcOld ha) la) rfl HM220.out [0] rfl (covS_box 10 rfl (covS_box 9 rfl (covS_box 8 rfl (covS_box 6 rfl covS_nil)))) rfl rfl ?_
          rintro W222 hm221 hg223
          rw [hma.out]
          have HM224 := Lib.hid hm221
          clear hm221
          simp only [Act.put, List.setIfInBounds_toArray, List.set_cons_succ, List.set_cons_zero]
          refine wpS_this [2, 3] rfl (by kernel_rfl) (by simp only [pickL, nthL, List.cons_append, List.nil_append]; rfl) ?_
          repeat (go_big_quiet_step (fail))
          refine wpQuiet_nil ?_
          refine wpS_loadA (i := 4) (d := some 100) (cells := rgC (b) (.slice pb b.p.2.2.length cb)) rfl (by rfl) rfl rfl (HM224.out.sub 10 rfl (fun k u h => by rw [Nat.zero_add]; exact h)) Try.underlying30 rfl (by kernel_rfl) rfl ?_
          simp only [Act.put, List.setIfInBounds_toArray, List.set_cons_succ, List.set_cons_zero]
          refine wpS_does1 (i := 5) (d := some 101) (rem := [_, _, _, _, _, _, _, _, _, _, _]) (out := [_, _, _, _, _, _, _, _, _, _, _, _]) rfl (by rfl) rfl Try.call13 (gmay_d (oldT W0) _ b (srcOld hb) lb) rfl HM224.out [0] rfl (covS_box 10 rfl (covS_box 9 rfl (covS_box 8 rfl (covS_box 6 rfl covS_nil)))) rfl rfl ?_
          rintro W226 hm225 hg227
          rw [hmb.out]
          have HM228 := Lib.hid hm225
          clear hm225
          simp only [Act.put, List.setIfInBounds_toArray, List.set_cons_succ, List.set_cons_zero]
          refine wpS_this [6, 7, 8] rfl (by kernel_rfl) (by simp only [pickL, nthL, List.cons_append, List.nil_append]; rfl) ?_
          repeat (go_big_quiet_step (fail))
          refine wpQuiet_nil ?_
          refine wpS_skip (i := 9) (d := some 105) rfl (by rfl) rfl ?_
          simp only [Act.put, List.setIfInBounds_toArray, List.set_cons_succ, List.set_cons_zero]
          refine wpS_skip (i := 10) (d := some 106) rfl (by rfl) rfl ?_
          simp only [Act.put, List.setIfInBounds_toArray, List.set_cons_succ, List.set_cons_zero]
          refine wpS_this [11, 12] rfl (by kernel_rfl) (by simp only [pickL, nthL, List.cons_append, List.nil_append]; rfl) ?_
          repeat (go_big_quiet_step (fail))
          refine wpQuiet_nil ?_
          refine wpS_loadA (i := 13) (d := some 109) (cells := rgC (a) (.slice pa a.p.2.2.length ca)) rfl (by rfl) rfl rfl (HM228.out.sub 11 rfl (fun k u h => by rw [Nat.zero_add]; exact h)) Try.underlying30 rfl (by kernel_rfl) rfl ?_
          simp only [Act.put, List.setIfInBounds_toArray, List.set_cons_succ, List.set_cons_zero]
          refine wpS_loadA (i := 14) (d := some 110) (cells := rgC (b) (.slice pb b.p.2.2.length cb)) rfl (by rfl) rfl rfl (HM228.out.sub 10 rfl (fun k u h => by rw [Nat.zero_add]; exact h)) Try.underlying30 rfl (by kernel_rfl) rfl ?_
          simp only [Act.put, List.setIfInBounds_toArray, List.set_cons_succ, List.set_cons_zero]
          refine wpS_loadA2 (i := 16) (d := some 112) (cells := rgC (a) (.slice pa a.p.2.2.length ca)) rfl (by rfl) rfl rfl (by simp) (HM228.out.sub 11 rfl (fun k u h => by rw [Nat.zero_add]; exact h)) Try.underlying30 rfl (by kernel_rfl) rfl ?_
          simp only [Act.put, List.setIfInBounds_toArray, List.set_cons_succ, List.set_cons_zero]
          refine wpS_loadA2 (i := 17) (d := some 113) (cells := rgC (b) (.slice pb b.p.2.2.length cb)) rfl (by rfl) rfl rfl (by simp) (HM228.out.sub 10 rfl (fun k u h => by rw [Nat.zero_add]; exact h)) Try.underlying30 rfl (by kernel_rfl) rfl ?_
          simp only [Act.put, List.setIfInBounds_toArray, List.set_cons_succ, List.set_cons_zero]
          refine wpS_does2 (i := 15) (d := some 111) (rem := [_, _, _, _, _, _, _, _, _, _, _]) (out := [_, _, _, _, _, _, _, _, _, _, _, _]) rfl (by rfl) rfl Try.call11 (gsame_d (oldT W0) _ a (srcOld ha) la _ b (srcOld hb) lb) rfl rfl HM228.out [0] rfl (covS_box 10 rfl (covS_box 9 rfl (covS_box 8 rfl (covS_box 6 rfl covS_nil)))) rfl rfl ?_
          rintro W230 hm229 hg231
          rw [hs.out]
          have HM232 := Lib.hid hm229
          clear hm229
          simp only [Act.put, List.setIfInBounds_toArray, List.set_cons_succ, List.set_cons_zero]
          refine wpS_does2 (i := 18) (d := some 114) (rem := [_, _, _, _, _, _, _, _, _, _, _]) (out := [_, _, _, _, _, _, _, _, _, _, _, _]) rfl (by rfl) rfl Try.call14 (rsame_d (oldT W0) _ a (srcOld ha) la _ b (srcOld hb) lb) rfl rfl HM232.out [0] rfl (covS_box 10 rfl (covS_box 9 rfl (covS_box 8 rfl (covS_box 6 rfl covS_nil)))) rfl rfl ?_
          rintro W234 hm233 hg235
          rw [hs.out]
          have HM236 := Lib.hid hm233
          clear hm233
          simp only [Act.put, List.setIfInBounds_toArray, List.set_cons_succ, List.set_cons_zero]
          refine wpS_this [19, 20, 21] rfl (by kernel_rfl) (by simp only [pickL, nthL, List.cons_append, List.nil_append]; rfl) ?_
          repeat (go_big_quiet_step (fail))
          refine wpQuiet_nil ?_
          refine wpS_does0 (i := 22) (d := some 118) (rem := [_, _, _, _, _, _, _, _, _, _, _, _]) (out := [_, _, _, _, _, _, _, _, _, _, _, _]) rfl (by rfl) rfl Try.call9 (gawake_d)  HM236.out [] rfl (covS_box 11 rfl (covS_box 10 rfl (covS_box 9 rfl (covS_box 7 rfl covS_nil)))) rfl rfl ?_
          rintro W238 hm237 hg239
          have HM240 := Lib.hid hm237
          clear hm237
          simp only [Act.put, List.setIfInBounds_toArray, List.set_cons_succ, List.set_cons_zero]
          refine wpS_this [23, 24] rfl (by kernel_rfl) (by simp only [pickL, nthL, List.cons_append, List.nil_append]; rfl) ?_
          repeat (go_big_quiet_step (fail))
          refine wpQuiet_nil ?_
          refine wpS_nil ?_
          refine then_normal ?_
          refine wp_ret ?_
          refine bodyPost_ret (results_tmp rfl _ _ _) rfl ?_
          exact does_ret (Mem.only (M := [_]) HM240.out [0] rfl) rfl rfl
        · have hmx : Hid (mayR x = true) := Lib.hid (by rw [← hx.out]; exact mayR_join hma hmb)
          replace hma := Lib.hid hma
          replace hmb := Lib.hid hmb
          refine wp_region_M (fun k => k ∈ ([b3, b7, b11, b28] : List Nat)) [(0, 1), (1, 3), (2, 1), (3, 1), (4, 1), (5, 3), (6, 1), (7, 1), (8, 1), (9, 1), (10, 3), (11, 1), (12, 1), (13, 1), (14, 1), (16, 2), (17, 2), (15, 3), (18, 3), (19, 1), (20, 1), (21, 1), (22, 3), (23, 1), (24, 1)] (by kernel_rfl) (by kernel_rfl) HM198.out ?_
          intro W241 hm242
          have HM243 := Lib.hid hm242
          clear hm242
          refine wpS_loadA (i := 0) (d := some 96) (cells := rgC (a) (.slice pa a.p.2.2.length ca)) rfl (by rfl) rfl rfl (HM243.out.sub 11 rfl (fun k u h => by rw [Nat.zero_add]; exact h)) Try.underlying30 rfl (by kernel_rfl) rfl ?_
          simp only [Act.put, List.setIfInBounds_toArray, List.set_cons_succ, List.set_cons_zero]
          refine wpS_does1 (i := 1) (d := some 97) (rem := [_, _, _, _, _, _, _, _, _, _, _]) (out := [_, _, _, _, _, _, _, _, _, _, _, _]) rfl (by rfl) rfl Try.call13 (gmay_d (oldT W0) _ a (srcOld ha) la) rfl HM243.out [0] rfl (covS_box 10 rfl (covS_box 9 rfl (covS_box 8 rfl (covS_box 6 rfl covS_nil)))) rfl rfl ?_
          rintro W245 hm244 hg246
          rw [hma.out]
          have HM247 := Lib.hid hm244
          clear hm244
          simp only [Act.put, List.setIfInBounds_toArray, List.set_cons_succ, List.set_cons_zero]
          refine wpS_this [2, 3] rfl (by kernel_rfl) (by simp only [pickL, nthL, List.cons_append, List.nil_append]; rfl) ?_
          repeat (go_big_quiet_step (fail))
          refine wpQuiet_nil ?_
          refine wpS_loadA (i := 4) (d := some 100) (cells := rgC (b) (.slice pb b.p.2.2.length cb)) rfl (by rfl) rfl rfl (HM247.out.sub 10 rfl (fun k u h => by rw [Nat.zero_add]; exact h)) Try.underlying30 rfl (by kernel_rfl) rfl ?_
          simp only [Act.put, List.setIfInBounds_toArray, List.set_cons_succ, List.set_cons_zero]
          refine wpS_does1 (i := 5) (d := some 101) (rem := [_, _, _, _, _, _, _, _, _, _, _]) (out := [_, _, _, _, _, _, _, _, _, _, _, _]) rfl (by rfl) rfl Try.call13 (gmay_d (oldT W0) _ b (srcOld hb) lb) rfl HM247.out [0] rfl (covS_box 10 rfl (covS_box 9 rfl (covS_box 8 rfl (covS_box 6 rfl covS_nil)))) rfl rfl ?_
          rintro W249 hm248 hg250
          rw [hmb.out]
          have HM251 := Lib.hid hm248
          clear hm248
          simp only [Act.put, List.setIfInBounds_toArray, List.set_cons_succ, List.set_cons_zero]
          refine wpS_this [6, 7, 8] rfl (by kernel_rfl) (by simp only [pickL, nthL, List.cons_append, List.nil_append]; rfl) ?_
          repeat (go_big_quiet_step (fail))
          refine wpQuiet_nil ?_
          refine wpS_loadA (i := 9) (d := some 105) (cells := rgC (x) (.slice px x.p.2.2.length cx)) rfl (by rfl) rfl rfl (HM251.out.sub 7 rfl (fun k u h => by rw [Nat.zero_add]; exact h)) Try.underlying30 rfl (by kernel_rfl) rfl ?_
          simp only [Act.put, List.setIfInBounds_toArray, List.set_cons_succ, List.set_cons_zero]
          refine wpS_does1 (i := 10) (d := some 106) (rem := [_, _, _, _, _, _, _, _, _, _, _]) (out := [_, _, _, _, _, _, _, _, _, _, _, _]) rfl (by rfl) rfl Try.call13 (gmay_d (rowT elemI _ _) _ x rowT_reads lx) rfl HM251.out [1] rfl (covS_box 10 rfl (covS_box 9 rfl (covS_box 8 rfl (covS_box 6 rfl covS_nil)))) rfl rfl ?_
          rintro W253 hm252 hg254
          rw [hmx.out]
          have HM255 := Lib.hid hm252
          clear hm252
          simp only [Act.put, List.setIfInBounds_toArray, List.set_cons_succ, List.set_cons_zero]
          refine wpS_this [11, 12] rfl (by kernel_rfl) (by simp only [pickL, nthL, List.cons_append, List.nil_append]; rfl) ?_
          repeat (go_big_quiet_step (fail))
          refine wpQuiet_nil ?_
          refine wpS_loadA (i := 13) (d := some 109) (cells := rgC (a) (.slice pa a.p.2.2.length ca)) rfl (by rfl) rfl rfl (HM255.out.sub 11 rfl (fun k u h => by rw [Nat.zero_add]; exact h)) Try.underlying30 rfl (by kernel_rfl) rfl ?_
          simp only [Act.put, List.setIfInBounds_toArray, List.set_cons_succ, List.set_cons_zero]
          refine wpS_loadA (i := 14) (d := some 110) (cells := rgC (b) (.slice pb b.p.2.2.length cb)) rfl (by rfl) rfl rfl (HM255.out.sub 10 rfl (fun k u h => by rw [Nat.zero_add]; exact h)) Try.underlying30 rfl (by kernel_rfl) rfl ?_
          simp only [Act.put, List.setIfInBounds_toArray, List.set_cons_succ, List.set_cons_zero]
          refine wpS_loadA2 (i := 16) (d := some 112) (cells := rgC (a) (.slice pa a.p.2.2.length ca)) rfl (by rfl) rfl rfl (by simp) (HM255.out.sub 11 rfl (fun k u h => by rw [Nat.zero_add]; exact h)) Try.underlying30 rfl (by kernel_rfl) rfl ?_
          simp only [Act.put, List.setIfInBounds_toArray, List.set_cons_succ, List.set_cons_zero]
          refine wpS_loadA2 (i := 17) (d := some 113) (cells := rgC (b) (.slice pb b.p.2.2.length cb)) rfl (by rfl) rfl rfl (by simp) (HM255.out.sub 10 rfl (fun k u h => by rw [Nat.zero_add]; exact h)) Try.underlying30 rfl (by kernel_rfl) rfl ?_
          simp only [Act.put, List.setIfInBounds_toArray, List.set_cons_succ, List.set_cons_zero]
          refine wpS_does2 (i := 15) (d := some 111) (rem := [_, _, _, _, _, _, _, _, _, _, _]) (out := [_, _, _, _, _, _, _, _, _, _, _, _]) rfl (by rfl) rfl Try.call11 (gsame_d (oldT W0) _ a (srcOld ha) la _ b (srcOld hb) lb) rfl rfl HM255.out [1] rfl (covS_box 10 rfl (covS_box 9 rfl (covS_box 8 rfl (covS_box 6 rfl covS_nil)))) rfl rfl ?_
          rintro W257 hm256 hg258
          rw [hs.out]
          have HM259 := Lib.hid hm256
          clear hm256
          simp only [Act.put, List.setIfInBounds_toArray, List.set_cons_succ, List.set_cons_zero]
          refine wpS_does2 (i := 18) (d := some 114) (rem := [_, _, _, _, _, _, _, _, _, _, _]) (out := [_, _, _, _, _, _, _, _, _, _, _, _]) rfl (by rfl) rfl Try.call14 (rsame_d (oldT W0) _ a (srcOld ha) la _ b (srcOld hb) lb) rfl rfl HM259.out [0] rfl (covS_box 10 rfl (covS_box 9 rfl (covS_box 8 rfl (covS_box 6 rfl covS_nil)))) rfl rfl ?_
          rintro W261 hm260 hg262
          rw [hs.out]
          have HM263 := Lib.hid hm260
          clear hm260
          simp only [Act.put, List.setIfInBounds_toArray, List.set_cons_succ, List.set_cons_zero]
          refine wpS_this [19, 20, 21] rfl (by kernel_rfl) (by simp only [pickL, nthL, List.cons_append, List.nil_append]; rfl) ?_
          repeat (go_big_quiet_step (fail))
          refine wpQuiet_nil ?_
          refine wpS_does0 (i := 22) (d := some 118) (rem := [_, _, _, _, _, _, _, _, _, _, _, _]) (out := [_, _, _, _, _, _, _, _, _, _, _, _]) rfl (by rfl) rfl Try.call9 (gawake_d)  HM263.out [] rfl (covS_box 11 rfl (covS_box 10 rfl (covS_box 9 rfl (covS_box 7 rfl covS_nil)))) rfl rfl ?_
          rintro W265 hm264 hg266
          have HM267 := Lib.hid hm264
          clear hm264
          simp only [Act.put, List.setIfInBounds_toArray, List.set_cons_succ, List.set_cons_zero]
          refine wpS_this [23, 24] rfl (by kernel_rfl) (by simp only [pickL, nthL, List.cons_append, List.nil_append]; rfl) ?_
          repeat (go_big_quiet_step (fail))
          refine wpQuiet_nil ?_
          refine wpS_nil ?_
          refine then_normal ?_
          refine wp_ret ?_
          refine bodyPost_ret (results_tmp rfl _ _ _) rfl ?_
          exact does_ret (Mem.only (M := [_]) HM267.out [0] rfl) rfl rfl
      · have hba' : belowR b a = s := (below_anti hab).trans hs.out
        have hba := Lib.hid hba'
        clear hba'
        have hac2 : Hid (belowR a c = true) := Lib.hid (below_trans hab hbc)
        replace hab := Lib.hid hab
        replace hbc := Lib.hid hbc
        refine wp_region_M (fun k => k ∈ ([b3, b7, b11, b28] : List Nat)) [(0, 1), (1, 1), (2, 3), (3, 1), (4, 1), (5, 1), (6, 3), (7, 1), (8, 1), (9, 1), (10, 1), (11, 3), (12, 1), (13, 1), (14, 1), (15, 1), (16, 1), (17, 3), (18, 1), (19, 1), (20, 1), (22, 2), (23, 2), (21, 3), (24, 3), (25, 1), (26, 1), (27, 1)] (by kernel_rfl) (by kernel_rfl) HM95.out ?_
        intro W268 hm269
        have HM270 := Lib.hid hm269
        clear hm269
        refine wpS_loadA (i := 0) (d := some 68) (cells := rgC (a) (.slice pa a.p.2.2.length ca)) rfl (by rfl) rfl rfl (HM270.out.sub 11 rfl (fun k u h => by rw [Nat.zero_add]; exact h)) Try.underlying30 rfl (by kernel_rfl) rfl ?_
        simp only [Act.put, List.setIfInBounds_toArray, List.set_cons_succ, List.set_cons_zero]
        refine wpS_loadA (i := 1) (d := some 69) (cells := rgC (b) (.slice pb b.p.2.2.length cb)) rfl (by rfl) rfl rfl (HM270.out.sub 10 rfl (fun k u h => by rw [Nat.zero_add]; exact h)) Try.underlying30 rfl (by kernel_rfl) rfl ?_
        simp only [Act.put, List.setIfInBounds_toArray, List.set_cons_succ, List.set_cons_zero]
        refine wpS_does2 (i := 2) (d := some 70) (rem := [_, _, _, _, _, _, _, _, _, _, _]) (out := [_, _, _, _, _, _, _, _, _, _, _, _]) rfl (by rfl) rfl Try.call12 (gbelow_d (oldT W0) _ a (srcOld ha) la _ b (srcOld hb) lb) rfl rfl HM270.out [1] rfl (covS_box 10 rfl (covS_box 9 rfl (covS_box 8 rfl (covS_box 6 rfl covS_nil)))) rfl rfl ?_
        rintro W272 hm271 hg273
        rw [hab.out]
        have HM274 := Lib.hid hm271
        clear hm271
        simp only [Act.put, List.setIfInBounds_toArray, List.set_cons_succ, List.set_cons_zero]
        refine wpS_this [3] rfl (by kernel_rfl) (by simp only [pickL, nthL, List.cons_append, List.nil_append]; rfl) ?_
        repeat (go_big_quiet_step (fail))
        refine wpQuiet_nil ?_
        refine wpS_loadA (i := 4) (d := some 72) (cells := rgC (b) (.slice pb b.p.2.2.length cb)) rfl (by rfl) rfl rfl (HM274.out.sub 10 rfl (fun k u h => by rw [Nat.zero_add]; exact h)) Try.underlying30 rfl (by kernel_rfl) rfl ?_
        simp only [Act.put, List.setIfInBounds_toArray, List.set_cons_succ, List.set_cons_zero]
        refine wpS_loadA (i := 5) (d := some 73) (cells := rgC (c) (.slice pc c.p.2.2.length cc)) rfl (by rfl) rfl rfl (HM274.out.sub 9 rfl (fun k u h => by rw [Nat.zero_add]; exact h)) Try.underlying30 rfl (by kernel_rfl) rfl ?_
        simp only [Act.put, List.setIfInBounds_toArray, List.set_cons_succ, List.set_cons_zero]
        refine wpS_does2 (i := 6) (d := some 74) (rem := [_, _, _, _, _, _, _, _, _, _, _]) (out := [_, _, _, _, _, _, _, _, _, _, _, _]) rfl (by rfl) rfl Try.call12 (gbelow_d (oldT W0) _ b (srcOld hb) lb _ c (srcOld hc) lc) rfl rfl HM274.out [0] rfl (covS_box 10 rfl (covS_box 9 rfl (covS_box 8 rfl (covS_box 6 rfl covS_nil)))) rfl rfl ?_
        rintro W276 hm275 hg277
        rw [hbc.out]
        have HM278 := Lib.hid hm275
        clear hm275
        simp only [Act.put, List.setIfInBounds_toArray, List.set_cons_succ, List.set_cons_zero]
        refine wpS_this [7, 8] rfl (by kernel_rfl) (by simp only [pickL, nthL, List.cons_append, List.nil_append]; rfl) ?_
        repeat (go_big_quiet_step (fail))
        refine wpQuiet_nil ?_
        refine wpS_loadA (i := 9) (d := some 77) (cells := rgC (a) (.slice pa a.p.2.2.length ca)) rfl (by rfl) rfl rfl (HM278.out.sub 11 rfl (fun k u h => by rw [Nat.zero_add]; exact h)) Try.underlying30 rfl (by kernel_rfl) rfl ?_
        simp only [Act.put, List.setIfInBounds_toArray, List.set_cons_succ, List.set_cons_zero]
        refine wpS_loadA (i := 10) (d := some 78) (cells := rgC (c) (.slice pc c.p.2.2.length cc)) rfl (by rfl) rfl rfl (HM278.out.sub 9 rfl (fun k u h => by rw [Nat.zero_add]; exact h)) Try.underlying30 rfl (by kernel_rfl) rfl ?_
        simp only [Act.put, List.setIfInBounds_toArray, List.set_cons_succ, List.set_cons_zero]
        refine wpS_does2 (i := 11) (d := some 79) (rem := [_, _, _, _, _, _, _, _, _, _, _]) (out := [_, _, _, _, _, _, _, _, _, _, _, _]) rfl (by rfl) rfl Try.call12 (gbelow_d (oldT W0) _ a (srcOld ha) la _ c (srcOld hc) lc) rfl rfl HM278.out [0] rfl (covS_box 10 rfl (covS_box 9 rfl (covS_box 8 rfl (covS_box 6 rfl covS_nil)))) rfl rfl ?_
        rintro W280 hm279 hg281
        rw [hac2.out]
        have HM282 := Lib.hid hm279
        clear hm279
        simp only [Act.put, List.setIfInBounds_toArray, List.set_cons_succ, List.set_cons_zero]
        refine wpS_this [12, 13, 14] rfl (by kernel_rfl) (by simp only [pickL, nthL, List.cons_append, List.nil_append]; rfl) ?_
        repeat (go_big_quiet_step (fail))
        refine wpQuiet_nil ?_
        refine wpS_loadA (i := 15) (d := some 83) (cells := rgC (a) (.slice pa a.p.2.2.length ca)) rfl (by rfl) rfl rfl (HM282.out.sub 11 rfl (fun k u h => by rw [Nat.zero_add]; exact h)) Try.underlying30 rfl (by kernel_rfl) rfl ?_
        simp only [Act.put, List.setIfInBounds_toArray, List.set_cons_succ, List.set_cons_zero]
        refine wpS_loadA (i := 16) (d := some 84) (cells := rgC (b) (.slice pb b.p.2.2.length cb)) rfl (by rfl) rfl rfl (HM282.out.sub 10 rfl (fun k u h => by rw [Nat.zero_add]; exact h)) Try.underlying30 rfl (by kernel_rfl) rfl ?_
        simp only [Act.put, List.setIfInBounds_toArray, List.set_cons_succ, List.set_cons_zero]
        refine wpS_does2 (i := 17) (d := some 85) (rem := [_, _, _, _, _, _, _, _, _, _, _]) (out := [_, _, _, _, _, _, _, _, _, _, _, _]) rfl (by rfl) rfl Try.call12 (gbelow_d (oldT W0) _ a (srcOld ha) la _ b (srcOld hb) lb) rfl rfl HM282.out [0] rfl (covS_box 10 rfl (covS_box 9 rfl (covS_box 8 rfl (covS_box 6 rfl covS_nil)))) rfl rfl ?_
        rintro W284 hm283 hg285
        rw [hab.out]
        have HM286 := Lib.hid hm283
        clear hm283
        simp only [Act.put, List.setIfInBounds_toArray, List.set_cons_succ, List.set_cons_zero]
        refine wpS_this [18] rfl (by kernel_rfl) (by simp only [pickL, nthL, List.cons_append, List.nil_append]; rfl) ?_
        repeat (go_big_quiet_step (fail))
        refine wpQuiet_nil ?_
        refine wpS_loadA (i := 19) (d := some 87) (cells := rgC (b) (.slice pb b.p.2.2.length cb)) rfl (by rfl) rfl rfl (HM286.out.sub 10 rfl (fun k u h => by rw [Nat.zero_add]; exact h)) Try.underlying30 rfl (by kernel_rfl) rfl ?_
        simp only [Act.put, List.setIfInBounds_toArray, List.set_cons_succ, List.set_cons_zero]
        refine wpS_loadA (i := 20) (d := some 88) (cells := rgC (a) (.slice pa a.p.2.2.length ca)) rfl (by rfl) rfl rfl (HM286.out.sub 11 rfl (fun k u h => by rw [Nat.zero_add]; exact h)) Try.underlying30 rfl (by kernel_rfl) rfl ?_
        simp only [Act.put, List.setIfInBounds_toArray, List.set_cons_succ, List.set_cons_zero]
        refine wpS_loadA2 (i := 22) (d := some 90) (cells := rgC (a) (.slice pa a.p.2.2.length ca)) rfl (by rfl) rfl rfl (by simp) (HM286.out.sub 11 rfl (fun k u h => by rw [Nat.zero_add]; exact h)) Try.underlying30 rfl (by kernel_rfl) rfl ?_
        simp only [Act.put, List.setIfInBounds_toArray, List.set_cons_succ, List.set_cons_zero]
        refine wpS_loadA2 (i := 23) (d := some 91) (cells := rgC (b) (.slice pb b.p.2.2.length cb)) rfl (by rfl) rfl rfl (by simp) (HM286.out.sub 10 rfl (fun k u h => by rw [Nat.zero_add]; exact h)) Try.underlying30 rfl (by kernel_rfl) rfl ?_
        simp only [Act.put, List.setIfInBounds_toArray, List.set_cons_succ, List.set_cons_zero]
        refine wpS_does2 (i := 21) (d := some 89) (rem := [_, _, _, _, _, _, _, _, _, _, _]) (out := [_, _, _, _, _, _, _, _, _, _, _, _]) rfl (by rfl) rfl Try.call12 (gbelow_d (oldT W0) _ b (srcOld hb) lb _ a (srcOld ha) la) rfl rfl HM286.out [0] rfl (covS_box 10 rfl (covS_box 9 rfl (covS_box 8 rfl (covS_box 6 rfl covS_nil)))) rfl rfl ?_
        rintro W288 hm287 hg289
        rw [hba.out]
        have HM290 := Lib.hid hm287
        clear hm287
        simp only [Act.put, List.setIfInBounds_toArray, List.set_cons_succ, List.set_cons_zero]
        refine wpS_does2 (i := 24) (d := some 92) (rem := [_, _, _, _, _, _, _, _, _, _, _]) (out := [_, _, _, _, _, _, _, _, _, _, _, _]) rfl (by rfl) rfl Try.call11 (gsame_d (oldT W0) _ a (srcOld ha) la _ b (srcOld hb) lb) rfl rfl HM290.out [0] rfl (covS_box 10 rfl (covS_box 9 rfl (covS_box 8 rfl (covS_box 6 rfl covS_nil)))) rfl rfl ?_
        rintro W292 hm291 hg293
        rw [hs.out]
        have HM294 := Lib.hid hm291
        clear hm291
        simp only [Act.put, List.setIfInBounds_toArray, List.set_cons_succ, List.set_cons_zero]
        refine wpS_this [25, 26, 27] rfl (by kernel_rfl) (by simp only [pickL, nthL, List.cons_append, List.nil_append]; rfl) ?_
        repeat (go_big_quiet_step (fail))
        refine wpQuiet_nil ?_
        refine wpS_nil ?_
        refine then_normal ?_
        refine wp_cond_false rfl ?_
        refine wp_skip ?_
        refine then_normal ?_
        refine wp_seq ?_
        rcases (show mayR a = false ∨ (mayR a = true ∧ mayR b = false) ∨ (mayR a = true ∧ mayR b = true) from by cases mayR a <;> cases mayR b <;> simp) with hma | ⟨hma, hmb⟩ | ⟨hma, hmb⟩
        · replace hma := Lib.hid hma
          refine wp_region_M (fun k => k ∈ ([b3, b7, b11, b28] : List Nat)) [(0, 1), (1, 3), (2, 1), (3, 1), (4, 1), (5, 3), (6, 1), (7, 1), (8, 1), (9, 1), (10, 3), (11, 1), (12, 1), (13, 1), (14, 1), (16, 2), (17, 2), (15, 3), (18, 3), (19, 1), (20, 1), (21, 1), (22, 3), (23, 1), (24, 1)] (by kernel_rfl) (by kernel_rfl) HM294.out ?_
          intro W295 hm296
          have HM297 := Lib.hid hm296
          clear hm296
          refine wpS_loadA (i := 0) (d := some 96) (cells := rgC (a) (.slice pa a.p.2.2.length ca)) rfl (by rfl) rfl rfl (HM297.out.sub 11 rfl (fun k u h => by rw [Nat.zero_add]; exact h)) Try.underlying30 rfl (by kernel_rfl) rfl ?_
          simp only [Act.put, List.setIfInBounds_toArray, List.set_cons_succ, List.set_cons_zero]
          refine wpS_does1 (i := 1) (d := some 97) (rem := [_, _, _, _, _, _, _, _, _, _, _]) (out := [_, _, _, _, _, _, _, _, _, _, _, _]) rfl (by rfl) rfl Try.call13 (gmay_d (oldT W0) _ a (srcOld ha) la) rfl HM297.out [0] rfl (covS_box 10 rfl (covS_box 9 rfl (covS_box 8 rfl (covS_box 6 rfl covS_nil)))) rfl rfl ?_
          rintro W299 hm298 hg300
          rw [hma.out]
          have HM301 := Lib.hid hm298
          clear hm298
          simp only [Act.put, List.setIfInBounds_toArray, List.set_cons_succ, List.set_cons_zero]
          refine wpS_this [2, 3] rfl (by kernel_rfl) (by simp only [pickL, nthL, List.cons_append, List.nil_append]; rfl) ?_
          repeat (go_big_quiet_step (fail))
          refine wpQuiet_nil ?_
          refine wpS_skip (i := 4) (d := some 100) rfl (by rfl) rfl ?_
          simp only [Act.put, List.setIfInBounds_toArray, List.set_cons_succ, List.set_cons_zero]
          refine wpS_skip (i := 5) (d := some 101) rfl (by rfl) rfl ?_
          simp only [Act.put, List.setIfInBounds_toArray, List.set_cons_succ, List.set_cons_zero]
          refine wpS_this [6, 7, 8] rfl (by kernel_rfl) (by simp only [pickL, nthL, List.cons_append, List.nil_append]; rfl) ?_
          repeat (go_big_quiet_step (fail))
          refine wpQuiet_nil ?_
          refine wpS_skip (i := 9) (d := some 105) rfl (by rfl) rfl ?_
          simp only [Act.put, List.setIfInBounds_toArray, List.set_cons_succ, List.set_cons_zero]
          refine wpS_skip (i := 10) (d := some 106) rfl (by rfl) rfl ?_
          simp only [Act.put, List.setIfInBounds_toArray, List.set_cons_succ, List.set_cons_zero]
          refine wpS_this [11, 12] rfl (by kernel_rfl) (by simp only [pickL, nthL, List.cons_append, List.nil_append]; rfl) ?_
          repeat (go_big_quiet_step (fail))
          refine wpQuiet_nil ?_
          refine wpS_loadA (i := 13) (d := some 109) (cells := rgC (a) (.slice pa a.p.2.2.length ca)) rfl (by rfl) rfl rfl (HM301.out.sub 11 rfl (fun k u h => by rw [Nat.zero_add]; exact h)) Try.underlying30 rfl (by kernel_rfl) rfl ?_
          simp only [Act.put, List.setIfInBounds_toArray, List.set_cons_succ, List.set_cons_zero]
          refine wpS_loadA (i := 14) (d := some 110) (cells := rgC (b) (.slice pb b.p.2.2.length cb)) rfl (by rfl) rfl rfl (HM301.out.sub 10 rfl (fun k u h => by rw [Nat.zero_add]; exact h)) Try.underlying30 rfl (by kernel_rfl) rfl ?_
          simp only [Act.put, List.setIfInBounds_toArray, List.set_cons_succ, List.set_cons_zero]
          refine wpS_loadA2 (i := 16) (d := some 112) (cells := rgC (a) (.slice pa a.p.2.2.length ca)) rfl (by rfl) rfl rfl (by simp) (HM301.out.sub 11 rfl (fun k u h => by rw [Nat.zero_add]; exact h)) Try.underlying30 rfl (by kernel_rfl) rfl ?_
          simp only [Act.put, List.setIfInBounds_toArray, List.set_cons_succ, List.set_cons_zero]
          refine wpS_loadA2 (i := 17) (d := some 113) (cells := rgC (b) (.slice pb b.p.2.2.length cb)) rfl (by rfl) rfl rfl (by simp) (HM301.out.sub 10 rfl (fun k u h => by rw [Nat.zero_add]; exact h)) Try.underlying30 rfl (by kernel_rfl) rfl ?_
          simp only [Act.put, List.setIfInBounds_toArray, List.set_cons_succ, List.set_cons_zero]
          refine wpS_does2 (i := 15) (d := some 111) (rem := [_, _, _, _, _, _, _, _, _, _, _]) (out := [_, _, _, _, _, _, _, _, _, _, _, _]) rfl (by rfl) rfl Try.call11 (gsame_d (oldT W0) _ a (srcOld ha) la _ b (srcOld hb) lb) rfl rfl HM301.out [0] rfl (covS_box 10 rfl (covS_box 9 rfl (covS_box 8 rfl (covS_box 6 rfl covS_nil)))) rfl rfl ?_
          rintro W303 hm302 hg304
          rw [hs.out]
          have HM305 := Lib.hid hm302
          clear hm302
          simp only [Act.put, List.setIfInBounds_toArray, List.set_cons_succ, List.set_cons_zero]
          refine wpS_does2 (i := 18) (d := some 114) (rem := [_, _, _, _, _, _, _, _, _, _, _]) (out := [_, _, _, _, _, _, _, _, _, _, _, _]) rfl (by rfl) rfl Try.call14 (rsame_d (oldT W0) _ a (srcOld ha) la _ b (srcOld hb) lb) rfl rfl HM305.out [0] rfl (covS_box 10 rfl (covS_box 9 rfl (covS_box 8 rfl (covS_box 6 rfl covS_nil)))) rfl rfl ?_
          rintro W307 hm306 hg308
          rw [hs.out]
          have HM309 := Lib.hid hm306
          clear hm306
          simp only [Act.put, List.setIfInBounds_toArray, List.set_cons_succ, List.set_cons_zero]
          refine wpS_this [19, 20, 21] rfl (by kernel_rfl) (by simp only [pickL, nthL, List.cons_append, List.nil_append]; rfl) ?_
          repeat (go_big_quiet_step (fail))
          refine wpQuiet_nil ?_
          refine wpS_does0 (i := 22) (d := some 118) (rem := [_, _, _, _, _, _, _, _, _, _, _, _]) (out := [_, _, _, _, _, _, _, _, _, _, _, _]) rfl (by rfl) rfl Try.call9 (gawake_d)  HM309.out [] rfl (covS_box 11 rfl (covS_box 10 rfl (covS_box 9 rfl (covS_box 7 rfl covS_nil)))) rfl rfl ?_
          rintro W311 hm310 hg312
          have HM313 := Lib.hid hm310
          clear hm310
          simp only [Act.put, List.setIfInBounds_toArray, List.set_cons_succ, List.set_cons_zero]
          refine wpS_this [23, 24] rfl (by kernel_rfl) (by simp only [pickL, nthL, List.cons_append, List.nil_append]; rfl) ?_
          repeat (go_big_quiet_step (fail))
          refine wpQuiet_nil ?_
          refine wpS_nil ?_
          refine then_normal ?_
          refine wp_ret ?_
          refine bodyPost_ret (results_tmp rfl _ _ _) rfl ?_
          exact does_ret (Mem.only (M := [_]) HM313.out [0] rfl) rfl rfl
        · replace hma := Lib.hid hma
          replace hmb := Lib.hid hmb
          refine wp_region_M (fun k => k ∈ ([b3, b7, b11, b28] : List Nat)) [(0, 1), (1, 3), (2, 1), (3, 1), (4, 1), (5, 3), (6, 1), (7, 1), (8, 1), (9, 1), (10, 3), (11, 1), (12, 1), (13, 1), (14, 1), (16, 2), (17, 2), (15, 3), (18, 3), (19, 1), (20, 1), (21, 1), (22, 3), (23, 1), (24, 1)] (by kernel_rfl) (by kernel_rfl) HM294.out ?_
          intro W314 hm315
          have HM316 := Lib.hid hm315
          clear hm315
          refine wpS_loadA (i := 0) (d := some 96) (cells := rgC (a) (.slice pa a.p.2.2.length ca)) rfl (by rfl) rfl rfl (HM316.out.sub 11 rfl (fun k u h => by rw [Nat.zero_add]; exact h)) Try.underlying30 rfl (by kernel_rfl) rfl ?_
          simp only [Act.put, List.setIfInBounds_toArray, List.set_cons_succ, List.set_cons_zero]
          refine wpS_does1 (i := 1) (d := some 97) (rem := [_, _, _, _, _, _, _, _, _, _, _]) (out := [_, _, _, _, _, _, _, _, _, _, _, _]) rfl (by rfl) rfl Try.call13 (gmay_d (oldT W0) _ a (srcOld ha) la) rfl HM316.out [0] rfl (covS_box 10 rfl (covS_box 9 rfl (covS_box 8 rfl (covS_box 6 rfl covS_nil)))) rfl rfl ?_
          rintro W318 hm317 hg319
          rw [hma.out]
          have HM320 := Lib.hid hm317
          clear hm317
          simp only [Act.put, List.setIfInBounds_toArray, List.set_cons_succ, List.set_cons_zero]
          refine wpS_this [2, 3] rfl (by kernel_rfl) (by simp only [pickL, nthL, List.cons_append, List.nil_append]; rfl) ?_
          repeat (go_big_quiet_step (fail))
          refine wpQuiet_nil ?_
          refine wpS_loadA (i := 4) (d := some 100) (cells := rgC (b) (.slice pb b.p.2.2.length cb)) rfl (by rfl) rfl rfl (HM320.out.sub 10 rfl (fun k u h => by rw [Nat.zero_add]; exact h)) Try.underlying30 rfl (by kernel_rfl) rfl ?_
          simp only [Act.put, List.setIfInBounds_toArray, List.set_cons_succ, List.set_cons_zero]
          refine wpS_does1 (i := 5) (d := some 101) (rem := [_, _, _, _, _, _, _, _, _, _, _]) (out := [_, _, _, _, _, _, _, _, _, _, _, _]) rfl (by rfl) rfl Try.call13 (gmay_d (oldT W0) _ b (srcOld hb) lb) rfl HM320.out [0] rfl (covS_box 10 rfl (covS_box 9 rfl (covS_box 8 rfl (covS_box 6 rfl covS_nil)))) rfl rfl ?_
          rintro W322 hm321 hg323
          rw [hmb.out]
          have HM324 := Lib.hid hm321
          clear hm321
          simp only [Act.put, List.setIfInBounds_toArray, List.set_cons_succ, List.set_cons_zero]
          refine wpS_this [6, 7, 8] rfl (by kernel_rfl) (by simp only [pickL, nthL, List.cons_append, List.nil_append]; rfl) ?_
          repeat (go_big_quiet_step (fail))
          refine wpQuiet_nil ?_
          refine wpS_skip (i := 9) (d := some 105) rfl (by rfl) rfl ?_
          simp only [Act.put, List.setIfInBounds_toArray, List.set_cons_succ, List.set_cons_zero]
          refine wpS_skip (i := 10) (d := some 106) rfl (by rfl) rfl ?_
          simp only [Act.put, List.setIfInBounds_toArray, List.set_cons_succ, List.set_cons_zero]
          refine wpS_this [11, 12] rfl (by kernel_rfl) (by simp only [pickL, nthL, List.cons_append, List.nil_append]; rfl) ?_
          repeat (go_big_quiet_step (fail))
          refine wpQuiet_nil ?_
          refine wpS_loadA (i := 13) (d := some 109) (cells := rgC (a) (.slice pa a.p.2.2.length ca)) rfl (by rfl) rfl rfl (HM324.out.sub 11 rfl (fun k u h => by rw [Nat.zero_add]; exact h)) Try.underlying30 rfl (by kernel_rfl) rfl ?_
          simp only [Act.put, List.setIfInBounds_toArray, List.set_cons_succ, List.set_cons_zero]
          refine wpS_loadA (i := 14) (d := some 110) (cells := rgC (b) (.slice pb b.p.2.2.length cb)) rfl (by rfl) rfl rfl (HM324.out.sub 10 rfl (fun k u h => by rw [Nat.zero_add]; exact h)) Try.underlying30 rfl (by kernel_rfl) rfl ?_
          simp only [Act.put, List.setIfInBounds_toArray, List.set_cons_succ, List.set_cons_zero]
          refine wpS_loadA2 (i := 16) (d := some 112) (cells := rgC (a) (.slice pa a.p.2.2.length ca)) rfl (by rfl) rfl rfl (by simp) (HM324.out.sub 11 rfl (fun k u h => by rw [Nat.zero_add]; exact h)) Try.underlying30 rfl (by kernel_rfl) rfl ?_
          simp only [Act.put, List.setIfInBounds_toArray, List.set_cons_succ, List.set_cons_zero]
          refine wpS_loadA2 (i := 17) (d := some 113) (cells := rgC (b) (.slice pb b.p.2.2.length cb)) rfl (by rfl) rfl rfl (by simp) (HM324.out.sub 10 rfl (fun k u h => by rw [Nat.zero_add]; exact h)) Try.underlying30 rfl (by kernel_rfl) rfl ?_
          simp only [Act.put, List.setIfInBounds_toArray, List.set_cons_succ, List.set_cons_zero]
          refine wpS_does2 (i := 15) (d := some 111) (rem := [_, _, _, _, _, _, _, _, _, _, _]) (out := [_, _, _, _, _, _, _, _, _, _, _, _]) rfl (by rfl) rfl Try.call11 (gsame_d (oldT W0) _ a (srcOld ha) la _ b (srcOld hb) lb) rfl rfl HM324.out [0] rfl (covS_box 10 rfl (covS_box 9 rfl (covS_box 8 rfl (covS_box 6 rfl covS_nil)))) rfl rfl ?_
          rintro W326 hm325 hg327
          rw [hs.out]
          have HM328 := Lib.hid hm325
          clear hm325
          simp only [Act.put, List.setIfInBounds_toArray, List.set_cons_succ, List.set_cons_zero]
          refine wpS_does2 (i := 18) (d := some 114) (rem := [_, _, _, _, _, _, _, _, _, _, _]) (out := [_, _, _, _, _, _, _, _, _, _, _, _]) rfl (by rfl) rfl Try.call14 (rsame_d (oldT W0) _ a (srcOld ha) la _ b (srcOld hb) lb) rfl rfl HM328.out [0] rfl (covS_box 10 rfl (covS_box 9 rfl (covS_box 8 rfl (covS_box 6 rfl covS_nil)))) rfl rfl ?_
          rintro W330 hm329 hg331
          rw [hs.out]
          have HM332 := Lib.hid hm329
          clear hm329
          simp only [Act.put, List.setIfInBounds_toArray, List.set_cons_succ, List.set_cons_zero]
          refine wpS_this [19, 20, 21] rfl (by kernel_rfl) (by simp only [pickL, nthL, List.cons_append, List.nil_append]; rfl) ?_
          repeat (go_big_quiet_step (fail))
          refine wpQuiet_nil ?_
          refine wpS_does0 (i := 22) (d := some 118) (rem := [_, _, _, _, _, _, _, _, _, _, _, _]) (out := [_, _, _, _, _, _, _, _, _, _, _, _]) rfl (by rfl) rfl Try.call9 (gawake_d)  HM332.out [] rfl (covS_box 11 rfl (covS_box 10 rfl (covS_box 9 rfl (covS_box 7 rfl covS_nil)))) rfl rfl ?_
          rintro W334 hm333 hg335
          have HM336 := Lib.hid hm333
          clear hm333
          simp only [Act.put, List.setIfInBounds_toArray, List.set_cons_succ, List.set_cons_zero]
          refine wpS_this [23, 24] rfl (by kernel_rfl) (by simp only [pickL, nthL, List.cons_append, List.nil_append]; rfl) ?_
          repeat (go_big_quiet_step (fail))
          refine wpQuiet_nil ?_
          refine wpS_nil ?_
          refine then_normal ?_
          refine wp_ret ?_
          refine bodyPost_ret (results_tmp rfl _ _ _) rfl ?_
          exact does_ret (Mem.only (M := [_]) HM336.out [0] rfl) rfl rfl
        · have hmx : Hid (mayR x = true) := Lib.hid (by rw [← hx.out]; exact mayR_join hma hmb)
          replace hma := Lib.hid hma
          replace hmb := Lib.hid hmb
          refine wp_region_M (fun k => k ∈ ([b3, b7, b11, b28] : List Nat)) [(0, 1), (1, 3), (2, 1), (3, 1), (4, 1), (5, 3), (6, 1), (7, 1), (8, 1), (9, 1), (10, 3), (11, 1), (12, 1), (13, 1), (14, 1), (16, 2), (17, 2), (15, 3), (18, 3), (19, 1), (20, 1), (21, 1), (22, 3), (23, 1), (24, 1)] (by kernel_rfl) (by kernel_rfl) HM294.out ?_
          intro W337 hm338
          have HM339 := Lib.hid hm338
          clear hm338
          refine wpS_loadA (i := 0) (d := some 96) (cells := rgC (a) (.slice pa a.p.2.2.length ca)) rfl (by rfl) rfl rfl (HM339.out.sub 11 rfl (fun k u h => by rw [Nat.zero_add]; exact h)) Try.underlying30 rfl (by kernel_rfl) rfl ?_
          simp only [Act.put, List.setIfInBounds_toArray, List.set_cons_succ, List.set_cons_zero]
          refine wpS_does1 (i := 1) (d := some 97) (rem := [_, _, _, _, _, _, _, _, _, _, _]) (out := [_, _, _, _, _, _, _, _, _, _, _, _]) rfl (by rfl) rfl Try.call13 (gmay_d (oldT W0) _ a (srcOld ha) la) rfl HM339.out [0] rfl (covS_box 10 rfl (covS_box 9 rfl (covS_box 8 rfl (covS_box 6 rfl covS_nil)))) rfl rfl ?_
          rintro W341 hm340 hg342
          rw [hma.out]
          have HM343 := Lib.hid hm340
          clear hm340
          simp only [Act.put, List.setIfInBounds_toArray, List.set_cons_succ, List.set_cons_zero]
          refine wpS_this [2, 3] rfl (by kernel_rfl) (by simp only [pickL, nthL, List.cons_append, List.nil_append]; rfl) ?_
          repeat (go_big_quiet_step (fail))
          refine wpQuiet_nil ?_
          refine wpS_loadA (i := 4) (d := some 100) (cells := rgC (b) (.slice pb b.p.2.2.length cb)) rfl (by rfl) rfl rfl (HM343.out.sub 10 rfl (fun k u h => by rw [Nat.zero_add]; exact h)) Try.underlying30 rfl (by kernel_rfl) rfl ?_
          simp only [Act.put, List.setIfInBounds_toArray, List.set_cons_succ, List.set_cons_zero]
          refine wpS_does1 (i := 5) (d := some 101) (rem := [_, _, _, _, _, _, _, _, _, _, _]) (out := [_, _, _, _, _, _, _, _, _, _, _, _]) rfl (by rfl) rfl Try.call13 (gmay_d (oldT W0) _ b (srcOld hb) lb) rfl HM343.out [0] rfl (covS_box 10 rfl (covS_box 9 rfl (covS_box 8 rfl (covS_box 6 rfl covS_nil)))) rfl rfl ?_
          rintro W345 hm344 hg346
          rw [hmb.out]
          have HM347 := Lib.hid hm344
          clear hm344
          simp only [Act.put, List.setIfInBounds_toArray, List.set_cons_succ, List.set_cons_zero]
          refine wpS_this [6, 7, 8] rfl (by kernel_rfl) (by simp only [pickL, nthL, List.cons_append, List.nil_append]; rfl) ?_
          repeat (go_big_quiet_step (fail))
          refine wpQuiet_nil ?_
          refine wpS_loadA (i := 9) (d := some 105) (cells := rgC (x) (.slice px x.p.2.2.length cx)) rfl (by rfl) rfl rfl (HM347.out.sub 7 rfl (fun k u h => by rw [Nat.zero_add]; exact h)) Try.underlying30 rfl (by kernel_rfl) rfl ?_
          simp only [Act.put, List.setIfInBounds_toArray, List.set_cons_succ, List.set_cons_zero]
          refine wpS_does1 (i := 10) (d := some 106) (rem := [_, _, _, _, _, _, _, _, _, _, _]) (out := [_, _, _, _, _, _, _, _, _, _, _, _]) rfl (by rfl) rfl Try.call13 (gmay_d (rowT elemI _ _) _ x rowT_reads lx) rfl HM347.out [1] rfl (covS_box 10 rfl (covS_box 9 rfl (covS_box 8 rfl (covS_box 6 rfl covS_nil)))) rfl rfl ?_
          rintro W349 hm348 hg350
          rw [hmx.out]
          have HM351 := Lib.hid hm348
          clear hm348
          simp only [Act.put, List.setIfInBounds_toArray, List.set_cons_succ, List.set_cons_zero]
          refine wpS_this [11, 12] rfl (by kernel_rfl) (by simp only [pickL, nthL, List.cons_append, List.nil_append]; rfl) ?_
          repeat (go_big_quiet_step (fail))
          refine wpQuiet_nil ?_
          refine wpS_loadA (i := 13) (d := some 109) (cells := rgC (a) (.slice pa a.p.2.2.length ca)) rfl (by rfl) rfl rfl (HM351.out.sub 11 rfl (fun k u h => by rw [Nat.zero_add]; exact h)) Try.underlying30 rfl (by kernel_rfl) rfl ?_
          simp only [Act.put, List.setIfInBounds_toArray, List.set_cons_succ, List.set_cons_zero]
          refine wpS_loadA (i := 14) (d := some 110) (cells := rgC (b) (.slice pb b.p.2.2.length cb)) rfl (by rfl) rfl rfl (HM351.out.sub 10 rfl (fun k u h => by rw [Nat.zero_add]; exact h)) Try.underlying30 rfl (by kernel_rfl) rfl ?_
          simp only [Act.put, List.setIfInBounds_toArray, List.set_cons_succ, List.set_cons_zero]
          refine wpS_loadA2 (i := 16) (d := some 112) (cells := rgC (a) (.slice pa a.p.2.2.length ca)) rfl (by rfl) rfl rfl (by simp) (HM351.out.sub 11 rfl (fun k u h => by rw [Nat.zero_add]; exact h)) Try.underlying30 rfl (by kernel_rfl) rfl ?_
          simp only [Act.put, List.setIfInBounds_toArray, List.set_cons_succ, List.set_cons_zero]
          refine wpS_loadA2 (i := 17) (d := some 113) (cells := rgC (b) (.slice pb b.p.2.2.length cb)) rfl (by rfl) rfl rfl (by simp) (HM351.out.sub 10 rfl (fun k u h => by rw [Nat.zero_add]; exact h)) Try.underlying30 rfl (by kernel_rfl) rfl ?_
          simp only [Act.put, List.setIfInBounds_toArray, List.set_cons_succ, List.set_cons_zero]
          refine wpS_does2 (i := 15) (d := some 111) (rem := [_, _, _, _, _, _, _, _, _, _, _]) (out := [_, _, _, _, _, _, _, _, _, _, _, _]) rfl (by rfl) rfl Try.call11 (gsame_d (oldT W0) _ a (srcOld ha) la _ b (srcOld hb) lb) rfl rfl HM351.out [1] rfl (covS_box 10 rfl (covS_box 9 rfl (covS_box 8 rfl (covS_box 6 rfl covS_nil)))) rfl rfl ?_
          rintro W353 hm352 hg354
          rw [hs.out]
          have HM355 := Lib.hid hm352
          clear hm352
          simp only [Act.put, List.setIfInBounds_toArray, List.set_cons_succ, List.set_cons_zero]
          refine wpS_does2 (i := 18) (d := some 114) (rem := [_, _, _, _, _, _, _, _, _, _, _]) (out := [_, _, _, _, _, _, _, _, _, _, _, _]) rfl (by rfl) rfl Try.call14 (rsame_d (oldT W0) _ a (srcOld ha) la _ b (srcOld hb) lb) rfl rfl HM355.out [0] rfl (covS_box 10 rfl (covS_box 9 rfl (covS_box 8 rfl (covS_box 6 rfl covS_nil)))) rfl rfl ?_
          rintro W357 hm356 hg358
          rw [hs.out]
          have HM359 := Lib.hid hm356
          clear hm356
          simp only [Act.put, List.setIfInBounds_toArray, List.set_cons_succ, List.set_cons_zero]
          refine wpS_this [19, 20, 21] rfl (by kernel_rfl) (by simp only [pickL, nthL, List.cons_append, List.nil_append]; rfl) ?_
          repeat (go_big_quiet_step (fail))
          refine wpQuiet_nil ?_
          refine wpS_does0 (i := 22) (d := some 118) (rem := [_, _, _, _, _, _, _, _, _, _, _, _]) (out := [_, _, _, _, _, _, _, _, _, _, _, _]) rfl (by rfl) rfl Try.call9 (gawake_d)  HM359.out [] rfl (covS_box 11 rfl (covS_box 10 rfl (covS_box 9 rfl (covS_box 7 rfl covS_nil)))) rfl rfl ?_
          rintro W361 hm360 hg362
          have HM363 := Lib.hid hm360
          clear hm360
          simp only [Act.put, List.setIfInBounds_toArray, List.set_cons_succ, List.set_cons_zero]
          refine wpS_this [23, 24] rfl (by kernel_rfl) (by simp only [pickL, nthL, List.cons_append, List.nil_append]; rfl) ?_
          repeat (go_big_quiet_step (fail))
          refine wpQuiet_nil ?_
          refine wpS_nil ?_
          refine then_normal ?_
          refine wp_ret ?_
          refine bodyPost_ret (results_tmp rfl _ _ _) rfl ?_
          exact does_ret (Mem.only (M := [_]) HM363.out [0] rfl) rfl rfl
    · replace hac := Lib.hid hac
      refine wp_region_M (fun k => k ∈ ([b3, b7, b11, b28] : List Nat)) [(0, 1), (1, 1), (2, 3), (3, 1), (4, 1), (5, 1), (7, 2), (8, 2), (6, 3), (9, 3), (10, 1), (11, 1)] (by kernel_rfl) (by kernel_rfl) HM80.out ?_
      intro W364 hm365
      have HM366 := Lib.hid hm365
      clear hm365
      refine wpS_loadA (i := 0) (d := some 56) (cells := rgC (a) (.slice pa a.p.2.2.length ca)) rfl (by rfl) rfl rfl (HM366.out.sub 11 rfl (fun k u h => by rw [Nat.zero_add]; exact h)) Try.underlying30 rfl (by kernel_rfl) rfl ?_
      simp only [Act.put, List.setIfInBounds_toArray, List.set_cons_succ, List.set_cons_zero]
      refine wpS_loadA (i := 1) (d := some 57) (cells := rgC (c) (.slice pc c.p.2.2.length cc)) rfl (by rfl) rfl rfl (HM366.out.sub 9 rfl (fun k u h => by rw [Nat.zero_add]; exact h)) Try.underlying30 rfl (by kernel_rfl) rfl ?_
      simp only [Act.put, List.setIfInBounds_toArray, List.set_cons_succ, List.set_cons_zero]
      refine wpS_does2 (i := 2) (d := some 58) (rem := [_, _, _, _, _, _, _, _, _, _, _]) (out := [_, _, _, _, _, _, _, _, _, _, _, _]) rfl (by rfl) rfl Try.call12 (gbelow_d (oldT W0) _ a (srcOld ha) la _ c (srcOld hc) lc) rfl rfl HM366.out [1] rfl (covS_box 10 rfl (covS_box 9 rfl (covS_box 8 rfl (covS_box 6 rfl covS_nil)))) rfl rfl ?_
      rintro W368 hm367 hg369
      rw [hac.out]
      have HM370 := Lib.hid hm367
      clear hm367
      simp only [Act.put, List.setIfInBounds_toArray, List.set_cons_succ, List.set_cons_zero]
      refine wpS_this [3] rfl (by kernel_rfl) (by simp only [pickL, nthL, List.cons_append, List.nil_append]; rfl) ?_
      repeat (go_big_quiet_step (fail))
      refine wpQuiet_nil ?_
      refine wpS_skip (i := 4) (d := some 60) rfl (by rfl) rfl ?_
      simp only [Act.put, List.setIfInBounds_toArray, List.set_cons_succ, List.set_cons_zero]
      refine wpS_skip (i := 5) (d := some 61) rfl (by rfl) rfl ?_
      simp only [Act.put, List.setIfInBounds_toArray, List.set_cons_succ, List.set_cons_zero]
      refine wpS_skip (i := 7) (d := some 63) rfl (by rfl) rfl ?_
      simp only [Act.put, List.setIfInBounds_toArray, List.set_cons_succ, List.set_cons_zero]
      refine wpS_skip (i := 8) (d := some 64) rfl (by rfl) rfl ?_
      simp only [Act.put, List.setIfInBounds_toArray, List.set_cons_succ, List.set_cons_zero]
      refine wpS_skip (i := 6) (d := some 62) rfl (by rfl) rfl ?_
      simp only [Act.put, List.setIfInBounds_toArray, List.set_cons_succ, List.set_cons_zero]
      refine wpS_skip (i := 9) (d := some 65) rfl (by rfl) rfl ?_
      simp only [Act.put, List.setIfInBounds_toArray, List.set_cons_succ, List.set_cons_zero]
      refine wpS_this [10, 11] rfl (by kernel_rfl) (by simp only [pickL, nthL, List.cons_append, List.nil_append]; rfl) ?_
      repeat (go_big_quiet_step (fail))
      refine wpQuiet_nil ?_
      refine wpS_nil ?_
      refine then_normal ?_
      refine wp_cond_false rfl ?_
      refine wp_skip ?_
      refine then_normal ?_
      refine wp_seq ?_
      refine wp_seq ?_
      rcases (show belowR a b = false ∨ (belowR a b = true ∧ belowR b c = false) ∨ (belowR a b = true ∧ belowR b c = true) from by cases belowR a b <;> cases belowR b c <;> simp) with hab | ⟨hab, hbc⟩ | ⟨hab, hbc⟩
      · replace hab := Lib.hid hab
        refine wp_region_M (fun k => k ∈ ([b3, b7, b11, b28] : List Nat)) [(0, 1), (1, 1), (2, 3), (3, 1), (4, 1), (5, 1), (6, 3), (7, 1), (8, 1), (9, 1), (10, 1), (11, 3), (12, 1), (13, 1), (14, 1), (15, 1), (16, 1), (17, 3), (18, 1), (19, 1), (20, 1), (22, 2), (23, 2), (21, 3), (24, 3), (25, 1), (26, 1), (27, 1)] (by kernel_rfl) (by kernel_rfl) HM370.out ?_
        intro W371 hm372
        have HM373 := Lib.hid hm372
        clear hm372
        refine wpS_loadA (i := 0) (d := some 68) (cells := rgC (a) (.slice pa a.p.2.2.length ca)) rfl (by rfl) rfl rfl (HM373.out.sub 11 rfl (fun k u h => by rw [Nat.zero_add]; exact h)) Try.underlying30 rfl (by kernel_rfl) rfl ?_
        simp only [Act.put, List.setIfInBounds_toArray, List.set_cons_succ, List.set_cons_zero]
        refine wpS_loadA (i := 1) (d := some 69) (cells := rgC (b) (.slice pb b.p.2.2.length cb)) rfl (by rfl) rfl rfl (HM373.out.sub 10 rfl (fun k u h => by rw [Nat.zero_add]; exact h)) Try.underlying30 rfl (by kernel_rfl) rfl ?_
        simp only [Act.put, List.setIfInBounds_toArray, List.set_cons_succ, List.set_cons_zero]
        refine wpS_does2 (i := 2) (d := some 70) (rem := [_, _, _, _, _, _, _, _, _, _, _]) (out := [_, _, _, _, _, _, _, _, _, _, _, _]) rfl (by rfl) rfl Try.call12 (gbelow_d (oldT W0) _ a (srcOld ha) la _ b (srcOld hb) lb) rfl rfl HM373.out [0] rfl (covS_box 10 rfl (covS_box 9 rfl (covS_box 8 rfl (covS_box 6 rfl covS_nil)))) rfl rfl ?_
        rintro W375 hm374 hg376
        rw [hab.out]
        have HM377 := Lib.hid hm374
        clear hm374
        simp only [Act.put, List.setIfInBounds_toArray, List.set_cons_succ, List.set_cons_zero]
        refine wpS_this [3] rfl (by kernel_rfl) (by simp only [pickL, nthL, List.cons_append, List.nil_append]; rfl) ?_
        repeat (go_big_quiet_step (fail))
        refine wpQuiet_nil ?_
        refine wpS_skip (i := 4) (d := some 72) rfl (by rfl) rfl ?_
        simp only [Act.put, List.setIfInBounds_toArray, List.set_cons_succ, List.set_cons_zero]
        refine wpS_skip (i := 5) (d := some 73) rfl (by rfl) rfl ?_
        simp only [Act.put, List.setIfInBounds_toArray, List.set_cons_succ, List.set_cons_zero]
        refine wpS_skip (i := 6) (d := some 74) rfl (by rfl) rfl ?_
        simp only [Act.put, List.setIfInBounds_toArray, List.set_cons_succ, List.set_cons_zero]
        refine wpS_this [7, 8] rfl (by kernel_rfl) (by simp only [pickL, nthL, List.cons_append, List.nil_append]; rfl) ?_
        repeat (go_big_quiet_step (fail))
        refine wpQuiet_nil ?_
        refine wpS_skip (i := 9) (d := some 77) rfl (by rfl) rfl ?_
        simp only [Act.put, List.setIfInBounds_toArray, List.set_cons_succ, List.set_cons_zero]
        refine wpS_skip (i := 10) (d := some 78) rfl (by rfl) rfl ?_
        simp only [Act.put, List.setIfInBounds_toArray, List.set_cons_succ, List.set_cons_zero]
        refine wpS_skip (i := 11) (d := some 79) rfl (by rfl) rfl ?_
        simp only [Act.put, List.setIfInBounds_toArray, List.set_cons_succ, List.set_cons_zero]
        refine wpS_this [12, 13, 14] rfl (by kernel_rfl) (by simp only [pickL, nthL, List.cons_append, List.nil_append]; rfl) ?_
        repeat (go_big_quiet_step (fail))
        refine wpQuiet_nil ?_
        refine wpS_loadA (i := 15) (d := some 83) (cells := rgC (a) (.slice pa a.p.2.2.length ca)) rfl (by rfl) rfl rfl (HM377.out.sub 11 rfl (fun k u h => by rw [Nat.zero_add]; exact h)) Try.underlying30 rfl (by kernel_rfl) rfl ?_
        simp only [Act.put, List.setIfInBounds_toArray, List.set_cons_succ, List.set_cons_zero]
        refine wpS_loadA (i := 16) (d := some 84) (cells := rgC (b) (.slice pb b.p.2.2.length cb)) rfl (by rfl) rfl rfl (HM377.out.sub 10 rfl (fun k u h => by rw [Nat.zero_add]; exact h)) Try.underlying30 rfl (by kernel_rfl) rfl ?_
        simp only [Act.put, List.setIfInBounds_toArray, List.set_cons_succ, List.set_cons_zero]
        refine wpS_does2 (i := 17) (d := some 85) (rem := [_, _, _, _, _, _, _, _, _, _, _]) (out := [_, _, _, _, _, _, _, _, _, _, _, _]) rfl (by rfl) rfl Try.call12 (gbelow_d (oldT W0) _ a (srcOld ha) la _ b (srcOld hb) lb) rfl rfl HM377.out [0] rfl (covS_box 10 rfl (covS_box 9 rfl (covS_box 8 rfl (covS_box 6 rfl covS_nil)))) rfl rfl ?_
        rintro W379 hm378 hg380
        rw [hab.out]
        have HM381 := Lib.hid hm378
        clear hm378
        simp only [Act.put, List.setIfInBounds_toArray, List.set_cons_succ, List.set_cons_zero]
        refine wpS_this [18] rfl (by kernel_rfl) (by simp only [pickL, nthL, List.cons_append, List.nil_append]; rfl) ?_
        repeat (go_big_quiet_step (fail))
        refine wpQuiet_nil ?_
        refine wpS_skip (i := 19) (d := some 87) rfl (by rfl) rfl ?_
        simp only [Act.put, List.setIfInBounds_toArray, List.set_cons_succ, List.set_cons_zero]
        refine wpS_skip (i := 20) (d := some 88) rfl (by rfl) rfl ?_
        simp only [Act.put, List.setIfInBounds_toArray, List.set_cons_succ, List.set_cons_zero]
        refine wpS_skip (i := 22) (d := some 90) rfl (by rfl) rfl ?_
        simp only [Act.put, List.setIfInBounds_toArray, List.set_cons_succ, List.set_cons_zero]
        refine wpS_skip (i := 23) (d := some 91) rfl (by rfl) rfl ?_
        simp only [Act.put, List.setIfInBounds_toArray, List.set_cons_succ, List.set_cons_zero]
        refine wpS_skip (i := 21) (d := some 89) rfl (by rfl) rfl ?_
        simp only [Act.put, List.setIfInBounds_toArray, List.set_cons_succ, List.set_cons_zero]
        refine wpS_skip (i := 24) (d := some 92) rfl (by rfl) rfl ?_
        simp only [Act.put, List.setIfInBounds_toArray, List.set_cons_succ, List.set_cons_zero]
        refine wpS_this [25, 26, 27] rfl (by kernel_rfl) (by simp only [pickL, nthL, List.cons_append, List.nil_append]; rfl) ?_
        repeat (go_big_quiet_step (fail))
        refine wpQuiet_nil ?_
        refine wpS_nil ?_
        refine then_normal ?_
        refine wp_cond_false rfl ?_
        refine wp_skip ?_
        refine then_normal ?_
        refine wp_seq ?_
        rcases (show mayR a = false ∨ (mayR a = true ∧ mayR b = false) ∨ (mayR a = true ∧ mayR b = true) from by cases mayR a <;> cases mayR b <;> simp) with hma | ⟨hma, hmb⟩ | ⟨hma, hmb⟩
        · replace hma := Lib.hid hma
          refine wp_region_M (fun k => k ∈ ([b3, b7, b11, b28] : List Nat)) [(0, 1), (1, 3), (2, 1), (3, 1), (4, 1), (5, 3), (6, 1), (7, 1), (8, 1), (9, 1), (10, 3), (11, 1), (12, 1), (13, 1), (14, 1), (16, 2), (17, 2), (15, 3), (18, 3), (19, 1), (20, 1), (21, 1), (22, 3), (23, 1), (24, 1)] (by kernel_rfl) (by kernel_rfl) HM381.out ?_
          intro W382 hm383
          have HM384 := Lib.hid hm383
          clear hm383
          refine wpS_loadA (i := 0) (d := some 96) (cells := rgC (a) (.slice pa a.p.2.2.length ca)) rfl (by rfl) rfl rfl (HM384.out.sub 11 rfl (fun k u h => by rw [Nat.zero_add]; exact h)) Try.underlying30 rfl (by kernel_rfl) rfl ?_
          simp only [Act.put, List.setIfInBounds_toArray, List.set_cons_succ, List.set_cons_zero]
          refine wpS_does1 (i := 1) (d := some 97) (rem := [_, _, _, _, _, _, _, _, _, _, _]) (out := [_, _, _, _, _, _, _, _, _, _, _, _]) rfl (by rfl) rfl Try.call13 (gmay_d (oldT W0) _ a (srcOld ha) la) rfl HM384.out [0] rfl (covS_box 10 rfl (covS_box 9 rfl (covS_box 8 rfl (covS_box 6 rfl covS_nil)))) rfl rfl ?_
          rintro W386 hm385 hg387
          rw [hma.out]
          have HM388 := Lib.hid hm385
          clear hm385
          simp only [Act.put, List.setIfInBounds_toArray, List.set_cons_succ, List.set_cons_zero]
          refine wpS_this [2, 3] rfl (by kernel_rfl) (by simp only [pickL, nthL, List.cons_append, List.nil_append]; rfl) ?_
          repeat (go_big_quiet_step (fail))
          refine wpQuiet_nil ?_
          refine wpS_skip (i := 4) (d := some 100) rfl (by rfl) rfl ?_
          simp only [Act.put, List.setIfInBounds_toArray, List.set_cons_succ, List.set_cons_zero]
          refine wpS_skip (i := 5) (d := some 101) rfl (by rfl) rfl ?_
          simp only [Act.put, List.setIfInBounds_toArray, List.set_cons_succ, List.set_cons_zero]
          refine wpS_this [6, 7, 8] rfl (by kernel_rfl) (by simp only [pickL, nthL, List.cons_append, List.nil_append]; rfl) ?_
          repeat (go_big_quiet_step (fail))
          refine wpQuiet_nil ?_
          refine wpS_skip (i := 9) (d := some 105) rfl (by rfl) rfl ?_
          simp only [Act.put, List.setIfInBounds_toArray, List.set_cons_succ, List.set_cons_zero]
          refine wpS_skip (i := 10) (d := some 106) rfl (by rfl) rfl ?_
          simp only [Act.put, List.setIfInBounds_toArray, List.set_cons_succ, List.set_cons_zero]
          refine wpS_this [11, 12] rfl (by kernel_rfl) (by simp only [pickL, nthL, List.cons_append, List.nil_append]; rfl) ?_
          repeat (go_big_quiet_step (fail))
          refine wpQuiet_nil ?_
          refine wpS_loadA (i := 13) (d := some 109) (cells := rgC (a) (.slice pa a.p.2.2.length ca)) rfl (by rfl) rfl rfl (HM388.out.sub 11 rfl (fun k u h => by rw [Nat.zero_add]; exact h)) Try.underlying30 rfl (by kernel_rfl) rfl ?_
          simp only [Act.put, List.setIfInBounds_toArray, List.set_cons_succ, List.set_cons_zero]
          refine wpS_loadA (i := 14) (d := some 110) (cells := rgC (b) (.slice pb b.p.2.2.length cb)) rfl (by rfl) rfl rfl (HM388.out.sub 10 rfl (fun k u h => by rw [Nat.zero_add]; exact h)) Try.underlying30 rfl (by kernel_rfl) rfl ?_
          simp only [Act.put, List.setIfInBounds_toArray, List.set_cons_succ, List.set_cons_zero]
          refine wpS_loadA2 (i := 16) (d := some 112) (cells := rgC (a) (.slice pa a.p.2.2.length ca)) rfl (by rfl) rfl rfl (by simp) (HM388.out.sub 11 rfl (fun k u h => by rw [Nat.zero_add]; exact h)) Try.underlying30 rfl (by kernel_rfl) rfl ?_
          simp only [Act.put, List.setIfInBounds_toArray, List.set_cons_succ, List.set_cons_zero]
          refine wpS_loadA2 (i := 17) (d := some 113) (cells := rgC (b) (.slice pb b.p.2.2.length cb)) rfl (by rfl) rfl rfl (by simp) (HM388.out.sub 10 rfl (fun k u h => by rw [Nat.zero_add]; exact h)) Try.underlying30 rfl (by kernel_rfl) rfl ?_
          simp only [Act.put, List.setIfInBounds_toArray, List.set_cons_succ, List.set_cons_zero]
          refine wpS_does2 (i := 15) (d := some 111) (rem := [_, _, _, _, _, _, _, _, _, _, _]) (out := [_, _, _, _, _, _, _, _, _, _, _, _]) rfl (by rfl) rfl Try.call11 (gsame_d (oldT W0) _ a (srcOld ha) la _ b (srcOld hb) lb) rfl rfl HM388.out [0] rfl (covS_box 10 rfl (covS_box 9 rfl (covS_box 8 rfl (covS_box 6 rfl covS_nil)))) rfl rfl ?_
          rintro W390 hm389 hg391
          rw [hs.out]
          have HM392 := Lib.hid hm389
          clear hm389
          simp only [Act.put, List.setIfInBounds_toArray, List.set_cons_succ, List.set_cons_zero]
          refine wpS_does2 (i := 18) (d := some 114) (rem := [_, _, _, _, _, _, _, _, _, _, _]) (out := [_, _, _, _, _, _, _, _, _, _, _, _]) rfl (by rfl) rfl Try.call14 (rsame_d (oldT W0) _ a (srcOld ha) la _ b (srcOld hb) lb) rfl rfl HM392.out [0] rfl (covS_box 10 rfl (covS_box 9 rfl (covS_box 8 rfl (covS_box 6 rfl covS_nil)))) rfl rfl ?_
          rintro W394 hm393 hg395
          rw [hs.out]
          have HM396 := Lib.hid hm393
          clear hm393
          simp only [Act.put, List.setIfInBounds_toArray, List.set_cons_succ, List.set_cons_zero]
          refine wpS_this [19, 20, 21] rfl (by kernel_rfl) (by simp only [pickL, nthL, List.cons_append, List.nil_append]; rfl) ?_
          repeat (go_big_quiet_step (fail))
          refine wpQuiet_nil ?_
          refine wpS_does0 (i := 22) (d := some 118) (rem := [_, _, _, _, _, _, _, _, _, _, _, _]) (out := [_, _, _, _, _, _, _, _, _, _, _, _]) rfl (by rfl) rfl Try.call9 (gawake_d)  HM396.out [] rfl (covS_box 11 rfl (covS_box 10 rfl (covS_box 9 rfl (covS_box 7 rfl covS_nil)))) rfl rfl ?_
          rintro W398 hm397 hg399
          have HM400 := Lib.hid hm397
          clear hm397
          simp only [Act.put, List.setIfInBounds_toArray, List.set_cons_succ, List.set_cons_zero]
          refine wpS_this [23, 24] rfl (by kernel_rfl) (by simp only [pickL, nthL, List.cons_append, List.nil_append]; rfl) ?_
          repeat (go_big_quiet_step (fail))
          refine wpQuiet_nil ?_
          refine wpS_nil ?_
          refine then_normal ?_
          refine wp_ret ?_
          refine bodyPost_ret (results_tmp rfl _ _ _) rfl ?_
          exact does_ret (Mem.only (M := [_]) HM400.out [0] rfl) rfl rfl
        · replace hma := Lib.hid hma
          replace hmb := Lib.hid hmb
          refine wp_region_M (fun k => k ∈ ([b3, b7, b11, b28] : List Nat)) [(0, 1), (1, 3), (2, 1), (3, 1), (4, 1), (5, 3), (6, 1), (7, 1), (8, 1), (9, 1), (10, 3), (11, 1), (12, 1), (13, 1), (14, 1), (16, 2), (17, 2), (15, 3), (18, 3), (19, 1), (20, 1), (21, 1), (22, 3), (23, 1), (24, 1)] (by kernel_rfl) (by kernel_rfl) HM381.out ?_
          intro W401 hm402
          have HM403 := Lib.hid hm402
          clear hm402
          refine wpS_loadA (i := 0) (d := some 96) (cells := rgC (a) (.slice pa a.p.2.2.length ca)) rfl (by rfl) rfl rfl (HM403.out.sub 11 rfl (fun k u h => by rw [Nat.zero_add]; exact h)) Try.underlying30 rfl (by kernel_rfl) rfl ?_
          simp only [Act.put, List.setIfInBounds_toArray, List.set_cons_succ, List.set_cons_zero]
          refine wpS_does1 (i := 1) (d := some 97) (rem := [_, _, _, _, _, _, _, _, _, _, _]) (out := [_, _, _, _, _, _, _, _, _, _, _, _]) rfl (by rfl) rfl Try.call13 (gmay_d (oldT W0) _ a (srcOld ha) la) rfl HM403.out [0] rfl (covS_box 10 rfl (covS_box 9 rfl (covS_box 8 rfl (covS_box 6 rfl covS_nil)))) rfl rfl ?_
          rintro W405 hm404 hg406
          rw [hma.out]
          have HM407 := Lib.hid hm404
          clear hm404
          simp only [Act.put, List.setIfInBounds_toArray, List.set_cons_succ, List.set_cons_zero]
          refine wpS_this [2, 3] rfl (by kernel_rfl) (by simp only [pickL, nthL, List.cons_append, List.nil_append]; rfl) ?_
          repeat (go_big_quiet_step (fail))
          refine wpQuiet_nil ?_
          refine wpS_loadA (i := 4) (d := some 100) (cells := rgC (b) (.slice pb b.p.2.2.length cb)) rfl (by rfl) rfl rfl (HM407.out.sub 10 rfl (fun k u h => by rw [Nat.zero_add]; exact h)) Try.underlying30 rfl (by kernel_rfl) rfl ?_
          simp only [Act.put, List.setIfInBounds_toArray, List.set_cons_succ, List.set_cons_zero]
          refine wpS_does1 (i := 5) (d := some 101) (rem := [_, _, _, _, _, _, _, _, _, _, _]) (out := [_, _, _, _, _, _, _, _, _, _, _, _]) rfl (by rfl) rfl Try.call13 (gmay_d (oldT W0) _ b (srcOld hb) lb) rfl HM407.out [0] rfl (covS_box 10 rfl (covS_box 9 rfl (covS_box 8 rfl (covS_box 6 rfl covS_nil)))) rfl rfl ?_
          rintro W409 hm408 hg410
          rw [hmb.out]
          have HM411 := Lib.hid hm408
          clear hm408
          simp only [Act.put, List.setIfInBounds_toArray, List.set_cons_succ, List.set_cons_zero]
          refine wpS_this [6, 7, 8] rfl (by kernel_rfl) (by simp only [pickL, nthL, List.cons_append, List.nil_append]; rfl) ?_
          repeat (go_big_quiet_step (fail))
          refine wpQuiet_nil ?_
          refine wpS_skip (i := 9) (d := some 105) rfl (by rfl) rfl ?_
          simp only [Act.put, List.setIfInBounds_toArray, List.set_cons_succ, List.set_cons_zero]
          refine wpS_skip (i := 10) (d := some 106) rfl (by rfl) rfl ?_
          simp only [Act.put, List.setIfInBounds_toArray, List.set_cons_succ, List.set_cons_zero]
          refine wpS_this [11, 12] rfl (by kernel_rfl) (by simp only [pickL, nthL, List.cons_append, List.nil_append]; rfl) ?_
          repeat (go_big_quiet_step (fail))
          refine wpQuiet_nil ?_
          refine wpS_loadA (i := 13) (d := some 109) (cells := rgC (a) (.slice pa a.p.2.2.length ca)) rfl (by rfl) rfl rfl (HM411.out.sub 11 rfl (fun k u h => by rw [Nat.zero_add]; exact h)) Try.underlying30 rfl (by kernel_rfl) rfl ?_
          simp only [Act.put, List.setIfInBounds_toArray, List.set_cons_succ, List.set_cons_zero]
          refine wpS_loadA (i := 14) (d := some 110) (cells := rgC (b) (.slice pb b.p.2.2.length cb)) rfl (by rfl) rfl rfl (HM411.out.sub 10 rfl (fun k u h => by rw [Nat.zero_add]; exact h)) Try.underlying30 rfl (by kernel_rfl) rfl ?_
          simp only [Act.put, List.setIfInBounds_toArray, List.set_cons_succ, List.set_cons_zero]
          refine wpS_loadA2 (i := 16) (d := some 112) (cells := rgC (a) (.slice pa a.p.2.2.length ca)) rfl (by rfl) rfl rfl (by simp) (HM411.out.sub 11 rfl (fun k u h => by rw [Nat.zero_add]; exact h)) Try.underlying30 rfl (by kernel_rfl) rfl ?_
          simp only [Act.put, List.setIfInBounds_toArray, List.set_cons_succ, List.set_cons_zero]
          refine wpS_loadA2 (i := 17) (d := some 113) (cells := rgC (b) (.slice pb b.p.2.2.length cb)) rfl (by rfl) rfl rfl (by simp) (HM411.out.sub 10 rfl (fun k u h => by rw [Nat.zero_add]; exact h)) Try.underlying30 rfl (by kernel_rfl) rfl ?_
          simp only [Act.put, List.setIfInBounds_toArray, List.set_cons_succ, List.set_cons_zero]
          refine wpS_does2 (i := 15) (d := some 111) (rem := [_, _, _, _, _, _, _, _, _, _, _]) (out := [_, _, _, _, _, _, _, _, _, _, _, _]) rfl (by rfl) rfl Try.call11 (gsame_d (oldT W0) _ a (srcOld ha) la _ b (srcOld hb) lb) rfl rfl HM411.out [0] rfl (covS_box 10 rfl (covS_box 9 rfl (covS_box 8 rfl (covS_box 6 rfl covS_nil)))) rfl rfl ?_
          rintro W413 hm412 hg414
          rw [hs.out]
          have HM415 := Lib.hid hm412
          clear hm412
          simp only [Act.put, List.setIfInBounds_toArray, List.set_cons_succ, List.set_cons_zero]
          refine wpS_does2 (i := 18) (d := some 114) (rem := [_, _, _, _, _, _, _, _, _, _, _]) (out := [_, _, _, _, _, _, _, _, _, _, _, _]) rfl (by rfl) rfl Try.call14 (rsame_d (oldT W0) _ a (srcOld ha) la _ b (srcOld hb) lb) rfl rfl HM415.out [0] rfl (covS_box 10 rfl (covS_box 9 rfl (covS_box 8 rfl (covS_box 6 rfl covS_nil)))) rfl rfl ?_
          rintro W417 hm416 hg418
          rw [hs.out]
          have HM419 := Lib.hid hm416
          clear hm416
          simp only [Act.put, List.setIfInBounds_toArray, List.set_cons_succ, List.set_cons_zero]
          refine wpS_this [19, 20, 21] rfl (by kernel_rfl) (by simp only [pickL, nthL, List.cons_append, List.nil_append]; rfl) ?_
          repeat (go_big_quiet_step (fail))
          refine wpQuiet_nil ?_
          refine wpS_does0 (i := 22) (d := some 118) (rem := [_, _, _, _, _, _, _, _, _, _, _, _]) (out := [_, _, _, _, _, _, _, _, _, _, _, _]) rfl (by rfl) rfl Try.call9 (gawake_d)  HM419.out [] rfl (covS_box 11 rfl (covS_box 10 rfl (covS_box 9 rfl (covS_box 7 rfl covS_nil)))) rfl rfl ?_
          rintro W421 hm420 hg422
          have HM423 := Lib.hid hm420
          clear hm420
          simp only [Act.put, List.setIfInBounds_toArray, List.set_cons_succ, List.set_cons_zero]
          refine wpS_this [23, 24] rfl (by kernel_rfl) (by simp only [pickL, nthL, List.cons_append, List.nil_append]; rfl) ?_
          repeat (go_big_quiet_step (fail))
          refine wpQuiet_nil ?_
          refine wpS_nil ?_
          refine then_normal ?_
          refine wp_ret ?_
          refine bodyPost_ret (results_tmp rfl _ _ _) rfl ?_
          exact does_ret (Mem.only (M := [_]) HM423.out [0] rfl) rfl rfl
        · have hmx : Hid (mayR x = true) := Lib.hid (by rw [← hx.out]; exact mayR_join hma hmb)
          replace hma := Lib.hid hma
          replace hmb := Lib.hid hmb
          refine wp_region_M (fun k => k ∈ ([b3, b7, b11, b28] : List Nat)) [(0, 1), (1, 3), (2, 1), (3, 1), (4, 1), (5, 3), (6, 1), (7, 1), (8, 1), (9, 1), (10, 3), (11, 1), (12, 1), (13, 1), (14, 1), (16, 2), (17, 2), (15, 3), (18, 3), (19, 1), (20, 1), (21, 1), (22, 3), (23, 1), (24, 1)] (by kernel_rfl) (by kernel_rfl) HM381.out ?_
          intro W424 hm425
          have HM426 := Lib.hid hm425
          clear hm425
          refine wpS_loadA (i := 0) (d := some 96) (cells := rgC (a) (.slice pa a.p.2.2.length ca)) rfl (by rfl) rfl rfl (HM426.out.sub 11 rfl (fun k u h => by rw [Nat.zero_add]; exact h)) Try.underlying30 rfl (by kernel_rfl) rfl ?_
          simp only [Act.put, List.setIfInBounds_toArray, List.set_cons_succ, List.set_cons_zero]
          refine wpS_does1 (i := 1) (d := some 97) (rem := [_, _, _, _, _, _, _, _, _, _, _]) (out := [_, _, _, _, _, _, _, _, _, _, _, _]) rfl (by rfl) rfl Try.call13 (gmay_d (oldT W0) _ a (srcOld ha) la) rfl HM426.out [0] rfl (covS_box 10 rfl (covS_box 9 rfl (covS_box 8 rfl (covS_box 6 rfl covS_nil)))) rfl rfl ?_
          rintro W428 hm427 hg429
          rw [hma.out]
          have HM430 := Lib.hid hm427
          clear hm427
          simp only [Act.put, List.setIfInBounds_toArray, List.set_cons_succ, List.set_cons_zero]
          refine wpS_this [2, 3] rfl (by kernel_rfl) (by simp only [pickL, nthL, List.cons_append, List.nil_append]; rfl) ?_
          repeat (go_big_quiet_step (fail))
          refine wpQuiet_nil ?_
          refine wpS_loadA (i := 4) (d := some 100) (cells := rgC (b) (.slice pb b.p.2.2.length cb)) rfl (by rfl) rfl rfl (HM430.out.sub 10 rfl (fun k u h => by rw [Nat.zero_add]; exact h)) Try.underlying30 rfl (by kernel_rfl) rfl ?_
          simp only [Act.put, List.setIfInBounds_toArray, List.set_cons_succ, List.set_cons_zero]
          refine wpS_does1 (i := 5) (d := some 101) (rem := [_, _, _, _, _, _, _, _, _, _, _]) (out := [_, _, _, _, _, _, _, _, _, _, _, _]) rfl (by rfl) rfl Try.call13 (gmay_d (oldT W0) _ b (srcOld hb) lb) rfl HM430.out [0] rfl (covS_box 10 rfl (covS_box 9 rfl (covS_box 8 rfl (covS_box 6 rfl covS_nil)))) rfl rfl ?_
          rintro W432 hm431 hg433
          rw [hmb.out]
          have HM434 := Lib.hid hm431
          clear hm431
          simp only [Act.put, List.setIfInBounds_toArray, List.set_cons_succ, List.set_cons_zero]
          refine wpS_this [6, 7, 8] rfl (by kernel_rfl) (by simp only [pickL, nthL, List.cons_append, List.nil_append]; rfl) ?_
          repeat (go_big_quiet_step (fail))
          refine wpQuiet_nil ?_
          refine wpS_loadA (i := 9) (d := some 105) (cells := rgC (x) (.slice px x.p.2.2.length cx)) rfl (by rfl) rfl rfl (HM434.out.sub 7 rfl (fun k u h => by rw [Nat.zero_add]; exact h)) Try.underlying30 rfl (by kernel_rfl) rfl ?_
          simp only [Act.put, List.setIfInBounds_toArray, List.set_cons_succ, List.set_cons_zero]
          refine wpS_does1 (i := 10) (d := some 106) (rem := [_, _, _, _, _, _, _, _, _, _, _]) (out := [_, _, _, _, _, _, _, _, _, _, _, _]) rfl (by rfl) rfl Try.call13 (gmay_d (rowT elemI _ _) _ x rowT_reads lx) rfl HM434.out [1] rfl (covS_box 10 rfl (covS_box 9 rfl (covS_box 8 rfl (covS_box 6 rfl covS_nil)))) rfl rfl ?_
          rintro W436 hm435 hg437
          rw [hmx.out]
          have HM438 := Lib.hid hm435
          clear hm435
          simp only [Act.put, List.setIfInBounds_toArray, List.set_cons_succ, List.set_cons_zero]
          refine wpS_this [11, 12] rfl (by kernel_rfl) (by simp only [pickL, nthL, List.cons_append, List.nil_append]; rfl) ?_
          repeat (go_big_quiet_step (fail))
          refine wpQuiet_nil ?_
          refine wpS_loadA (i := 13) (d := some 109) (cells := rgC (a) (.slice pa a.p.2.2.length ca)) rfl (by rfl) rfl rfl (HM438.out.sub 11 rfl (fun k u h => by rw [Nat.zero_add]; exact h)) Try.underlying30 rfl (by kernel_rfl) rfl ?_
          simp only [Act.put, List.setIfInBounds_toArray, List.set_cons_succ, List.set_cons_zero]
          refine wpS_loadA (i := 14) (d := some 110) (cells := rgC (b) (.slice pb b.p.2.2.length cb)) rfl (by rfl) rfl rfl (HM438.out.sub 10 rfl (fun k u h => by rw [Nat.zero_add]; exact h)) Try.underlying30 rfl (by kernel_rfl) rfl ?_
          simp only [Act.put, List.setIfInBounds_toArray, List.set_cons_succ, List.set_cons_zero]
          refine wpS_loadA2 (i := 16) (d := some 112) (cells := rgC (a) (.slice pa a.p.2.2.length ca)) rfl (by rfl) rfl rfl (by simp) (HM438.out.sub 11 rfl (fun k u h => by rw [Nat.zero_add]; exact h)) Try.underlying30 rfl (by kernel_rfl) rfl ?_
          simp only [Act.put, List.setIfInBounds_toArray, List.set_cons_succ, List.set_cons_zero]
          refine wpS_loadA2 (i := 17) (d := some 113) (cells := rgC (b) (.slice pb b.p.2.2.length cb)) rfl (by rfl) rfl rfl (by simp) (HM438.out.sub 10 rfl (fun k u h => by rw [Nat.zero_add]; exact h)) Try.underlying30 rfl (by kernel_rfl) rfl ?_
          simp only [Act.put, List.setIfInBounds_toArray, List.set_cons_succ, List.set_cons_zero]
          refine wpS_does2 (i := 15) (d := some 111) (rem := [_, _, _, _, _, _, _, _, _, _, _]) (out := [_, _, _, _, _, _, _, _, _, _, _, _]) rfl (by rfl) rfl Try.call11 (gsame_d (oldT W0) _ a (srcOld ha) la _ b (srcOld hb) lb) rfl rfl HM438.out [1] rfl (covS_box 10 rfl (covS_box 9 rfl (covS_box 8 rfl (covS_box 6 rfl covS_nil)))) rfl rfl ?_
          rintro W440 hm439 hg441
          rw [hs.out]
          have HM442 := Lib.hid hm439
          clear hm439
          simp only [Act.put, List.setIfInBounds_toArray, List.set_cons_succ, List.set_cons_zero]
          refine wpS_does2 (i := 18) (d := some 114) (rem := [_, _, _, _, _, _, _, _, _, _, _]) (out := [_, _, _, _, _, _, _, _, _, _, _, _]) rfl (by rfl) rfl Try.call14 (rsame_d (oldT W0) _ a (srcOld ha) la _ b (srcOld hb) lb) rfl rfl HM442.out [0] rfl (covS_box 10 rfl (covS_box 9 rfl (covS_box 8 rfl (covS_box 6 rfl covS_nil)))) rfl rfl ?_
          rintro W444 hm443 hg445
          rw [hs.out]
          have HM446 := Lib.hid hm443
          clear hm443
          simp only [Act.put, List.setIfInBounds_toArray, List.set_cons_succ, List.set_cons_zero]
          refine wpS_this [19, 20, 21] rfl (by kernel_rfl) (by simp only [pickL, nthL, List.cons_append, List.nil_append]; rfl) ?_
          repeat (go_big_quiet_step (fail))
          refine wpQuiet_nil ?_
          refine wpS_does0 (i := 22) (d := some 118) (rem := [_, _, _, _, _, _, _, _, _, _, _, _]) (out := [_, _, _, _, _, _, _, _, _, _, _, _]) rfl (by rfl) rfl Try.call9 (gawake_d)  HM446.out [] rfl (covS_box 11 rfl (covS_box 10 rfl (covS_box 9 rfl (covS_box 7 rfl covS_nil)))) rfl rfl ?_
          rintro W448 hm447 hg449
          have HM450 := Lib.hid hm447
          clear hm447
          simp only [Act.put, List.setIfInBounds_toArray, List.set_cons_succ, List.set_cons_zero]
          refine wpS_this [23, 24] rfl (by kernel_rfl) (by simp only [pickL, nthL, List.cons_append, List.nil_append]; rfl) ?_
          repeat (go_big_quiet_step (fail))
          refine wpQuiet_nil ?_
          refine wpS_nil ?_
          refine then_normal ?_
          refine wp_ret ?_
          refine bodyPost_ret (results_tmp rfl _ _ _) rfl ?_
          exact does_ret (Mem.only (M := [_]) HM450.out [0] rfl) rfl rfl
      · have hba' : belowR b a = s := (below_anti hab).trans hs.out
        have hba := Lib.hid hba'
        clear hba'
        replace hab := Lib.hid hab
        replace hbc := Lib.hid hbc
        refine wp_region_M (fun k => k ∈ ([b3, b7, b11, b28] : List Nat)) [(0, 1), (1, 1), (2, 3), (3, 1), (4, 1), (5, 1), (6, 3), (7, 1), (8, 1), (9, 1), (10, 1), (11, 3), (12, 1), (13, 1), (14, 1), (15, 1), (16, 1), (17, 3), (18, 1), (19, 1), (20, 1), (22, 2), (23, 2), (21, 3), (24, 3), (25, 1), (26, 1), (27, 1)] (by kernel_rfl) (by kernel_rfl) HM370.out ?_
        intro W451 hm452
        have HM453 := Lib.hid hm452
        clear hm452
        refine wpS_loadA (i := 0) (d := some 68) (cells := rgC (a) (.slice pa a.p.2.2.length ca)) rfl (by rfl) rfl rfl (HM453.out.sub 11 rfl (fun k u h => by rw [Nat.zero_add]; exact h)) Try.underlying30 rfl (by kernel_rfl) rfl ?_
        simp only [Act.put, List.setIfInBounds_toArray, List.set_cons_succ, List.set_cons_zero]
        refine wpS_loadA (i := 1) (d := some 69) (cells := rgC (b) (.slice pb b.p.2.2.length cb)) rfl (by rfl) rfl rfl (HM453.out.sub 10 rfl (fun k u h => by rw [Nat.zero_add]; exact h)) Try.underlying30 rfl (by kernel_rfl) rfl ?_
        simp only [Act.put, List.setIfInBounds_toArray, List.set_cons_succ, List.set_cons_zero]
        refine wpS_does2 (i := 2) (d := some 70) (rem := [_, _, _, _, _, _, _, _, _, _, _]) (out := [_, _, _, _, _, _, _, _, _, _, _, _]) rfl (by rfl) rfl Try.call12 (gbelow_d (oldT W0) _ a (srcOld ha) la _ b (srcOld hb) lb) rfl rfl HM453.out [0] rfl (covS_box 10 rfl (covS_box 9 rfl (covS_box 8 rfl (covS_box 6 rfl covS_nil)))) rfl rfl ?_
        rintro W455 hm454 hg456
        rw [hab.out]
        have HM457 := Lib.hid hm454
        clear hm454
        simp only [Act.put, List.setIfInBounds_toArray, List.set_cons_succ, List.set_cons_zero]
        refine wpS_this [3] rfl (by kernel_rfl) (by simp only [pickL, nthL, List.cons_append, List.nil_append]; rfl) ?_
        repeat (go_big_quiet_step (fail))
        refine wpQuiet_nil ?_
        refine wpS_loadA (i := 4) (d := some 72) (cells := rgC (b) (.slice pb b.p.2.2.length cb)) rfl (by rfl) rfl rfl (HM457.out.sub 10 rfl (fun k u h => by rw [Nat.zero_add]; exact h)) Try.underlying30 rfl (by kernel_rfl) rfl ?_
        simp only [Act.put, List.setIfInBounds_toArray, List.set_cons_succ, List.set_cons_zero]
        refine wpS_loadA (i := 5) (d := some 73) (cells := rgC (c) (.slice pc c.p.2.2.length cc)) rfl (by rfl) rfl rfl (HM457.out.sub 9 rfl (fun k u h => by rw [Nat.zero_add]; exact h)) Try.underlying30 rfl (by kernel_rfl) rfl ?_
        simp only [Act.put, List.setIfInBounds_toArray, List.set_cons_succ, List.set_cons_zero]
        refine wpS_does2 (i := 6) (d := some 74) (rem := [_, _, _, _, _, _, _, _, _, _, _]) (out := [_, _, _, _, _, _, _, _, _, _, _, _]) rfl (by rfl) rfl Try.call12 (gbelow_d (oldT W0) _ b (srcOld hb) lb _ c (srcOld hc) lc) rfl rfl HM457.out [0] rfl (covS_box 10 rfl (covS_box 9 rfl (covS_box 8 rfl (covS_box 6 rfl covS_nil)))) rfl rfl ?_
        rintro W459 hm458 hg460
        rw [hbc.out]
        have HM461 := Lib.hid hm458
        clear hm458
        simp only [Act.put, List.setIfInBounds_toArray, List.set_cons_succ, List.set_cons_zero]
        refine wpS_this [7, 8] rfl (by kernel_rfl) (by simp only [pickL, nthL, List.cons_append, List.nil_append]; rfl) ?_
        repeat (go_big_quiet_step (fail))
        refine wpQuiet_nil ?_
        refine wpS_skip (i := 9) (d := some 77) rfl (by rfl) rfl ?_
        simp only [Act.put, List.setIfInBounds_toArray, List.set_cons_succ, List.set_cons_zero]
        refine wpS_skip (i := 10) (d := some 78) rfl (by rfl) rfl ?_
        simp only [Act.put, List.setIfInBounds_toArray, List.set_cons_succ, List.set_cons_zero]
        refine wpS_skip (i := 11) (d := some 79) rfl (by rfl) rfl ?_
        simp only [Act.put, List.setIfInBounds_toArray, List.set_cons_succ, List.set_cons_zero]
        refine wpS_this [12, 13, 14] rfl (by kernel_rfl) (by simp only [pickL, nthL, List.cons_append, List.nil_append]; rfl) ?_
        repeat (go_big_quiet_step (fail))
        refine wpQuiet_nil ?_
        refine wpS_loadA (i := 15) (d := some 83) (cells := rgC (a) (.slice pa a.p.2.2.length ca)) rfl (by rfl) rfl rfl (HM461.out.sub 11 rfl (fun k u h => by rw [Nat.zero_add]; exact h)) Try.underlying30 rfl (by kernel_rfl) rfl ?_
        simp only [Act.put, List.setIfInBounds_toArray, List.set_cons_succ, List.set_cons_zero]
        refine wpS_loadA (i := 16) (d := some 84) (cells := rgC (b) (.slice pb b.p.2.2.length cb)) rfl (by rfl) rfl rfl (HM461.out.sub 10 rfl (fun k u h => by rw [Nat.zero_add]; exact h)) Try.underlying30 rfl (by kernel_rfl) rfl ?_
        simp only [Act.put, List.setIfInBounds_toArray, List.set_cons_succ, List.set_cons_zero]
        refine wpS_does2 (i := 17) (d := some 85) (rem := [_, _, _, _, _, _, _, _, _, _, _]) (out := [_, _, _, _, _, _, _, _, _, _, _, _]) rfl (by rfl) rfl Try.call12 (gbelow_d (oldT W0) _ a (srcOld ha) la _ b (srcOld hb) lb) rfl rfl HM461.out [0] rfl (covS_box 10 rfl (covS_box 9 rfl (covS_box 8 rfl (covS_box 6 rfl covS_nil)))) rfl rfl ?_
        rintro W463 hm462 hg464
        rw [hab.out]
        have HM465 := Lib.hid hm462
        clear hm462
        simp only [Act.put, List.setIfInBounds_toArray, List.set_cons_succ, List.set_cons_zero]
        refine wpS_this [18] rfl (by kernel_rfl) (by simp only [pickL, nthL, List.cons_append, List.nil_append]; rfl) ?_
        repeat (go_big_quiet_step (fail))
        refine wpQuiet_nil ?_
        refine wpS_loadA (i := 19) (d := some 87) (cells := rgC (b) (.slice pb b.p.2.2.length cb)) rfl (by rfl) rfl rfl (HM465.out.sub 10 rfl (fun k u h => by rw [Nat.zero_add]; exact h)) Try.underlying30 rfl (by kernel_rfl) rfl ?_
        simp only [Act.put, List.setIfInBounds_toArray, List.set_cons_succ, List.set_cons_zero]
        refine wpS_loadA (i := 20) (d := some 88) (cells := rgC (a) (.slice pa a.p.2.2.length ca)) rfl (by rfl) rfl rfl (HM465.out.sub 11 rfl (fun k u h => by rw [Nat.zero_add]; exact h)) Try.underlying30 rfl (by kernel_rfl) rfl ?_
        simp only [Act.put, List.setIfInBounds_toArray, List.set_cons_succ, List.set_cons_zero]
        refine wpS_loadA2 (i := 22) (d := some 90) (cells := rgC (a) (.slice pa a.p.2.2.length ca)) rfl (by rfl) rfl rfl (by simp) (HM465.out.sub 11 rfl (fun k u h => by rw [Nat.zero_add]; exact h)) Try.underlying30 rfl (by kernel_rfl) rfl ?_
        simp only [Act.put, List.setIfInBounds_toArray, List.set_cons_succ, List.set_cons_zero]
        refine wpS_loadA2 (i := 23) (d := some 91) (cells := rgC (b) (.slice pb b.p.2.2.length cb)) rfl (by rfl) rfl rfl (by simp) (HM465.out.sub 10 rfl (fun k u h => by rw [Nat.zero_add]; exact h)) Try.underlying30 rfl (by kernel_rfl) rfl ?_
        simp only [Act.put, List.setIfInBounds_toArray, List.set_cons_succ, List.set_cons_zero]
        refine wpS_does2 (i := 21) (d := some 89) (rem := [_, _, _, _, _, _, _, _, _, _, _]) (out := [_, _, _, _, _, _, _, _, _, _, _, _]) rfl (by rfl) rfl Try.call12 (gbelow_d (oldT W0) _ b (srcOld hb) lb _ a (srcOld ha) la) rfl rfl HM465.out [0] rfl (covS_box 10 rfl (covS_box 9 rfl (covS_box 8 rfl (covS_box 6 rfl covS_nil)))) rfl rfl ?_
        rintro W467 hm466 hg468
        rw [hba.out]
        have HM469 := Lib.hid hm466
        clear hm466
        simp only [Act.put, List.setIfInBounds_toArray, List.set_cons_succ, List.set_cons_zero]
        refine wpS_does2 (i := 24) (d := some 92) (rem := [_, _, _, _, _, _, _, _, _, _, _]) (out := [_, _, _, _, _, _, _, _, _, _, _, _]) rfl (by rfl) rfl Try.call11 (gsame_d (oldT W0) _ a (srcOld ha) la _ b (srcOld hb) lb) rfl rfl HM469.out [0] rfl (covS_box 10 rfl (covS_box 9 rfl (covS_box 8 rfl (covS_box 6 rfl covS_nil)))) rfl rfl ?_
        rintro W471 hm470 hg472
        rw [hs.out]
        have HM473 := Lib.hid hm470
        clear hm470
        simp only [Act.put, List.setIfInBounds_toArray, List.set_cons_succ, List.set_cons_zero]
        refine wpS_this [25, 26, 27] rfl (by kernel_rfl) (by simp only [pickL, nthL, List.cons_append, List.nil_append]; rfl) ?_
        repeat (go_big_quiet_step (fail))
        refine wpQuiet_nil ?_
        refine wpS_nil ?_
        refine then_normal ?_
        refine wp_cond_false rfl ?_
        refine wp_skip ?_
        refine then_normal ?_
        refine wp_seq ?_
        rcases (show mayR a = false ∨ (mayR a = true ∧ mayR b = false) ∨ (mayR a = true ∧ mayR b = true) from by cases mayR a <;> cases mayR b <;> simp) with hma | ⟨hma, hmb⟩ | ⟨hma, hmb⟩
        · replace hma := Lib.hid hma
          refine wp_region_M (fun k => k ∈ ([b3, b7, b11, b28] : List Nat)) [(0, 1), (1, 3), (2, 1), (3, 1), (4, 1), (5, 3), (6, 1), (7, 1), (8, 1), (9, 1), (10, 3), (11, 1), (12, 1), (13, 1), (14, 1), (16, 2), (17, 2), (15, 3), (18, 3), (19, 1), (20, 1), (21, 1), (22, 3), (23, 1), (24, 1)] (by kernel_rfl) (by kernel_rfl) HM473.out ?_
          intro W474 hm475
          have HM476 := Lib.hid hm475
          clear hm475
          refine wpS_loadA (i := 0) (d := some 96) (cells := rgC (a) (.slice pa a.p.2.2.length ca)) rfl (by rfl) rfl rfl (HM476.out.sub 11 rfl (fun k u h => by rw [Nat.zero_add]; exact h)) Try.underlying30 rfl (by kernel_rfl) rfl ?_
          simp only [Act.put, List.setIfInBounds_toArray, List.set_cons_succ, List.set_cons_zero]
          refine wpS_does1 (i := 1) (d := some 97) (rem := [_, _, _, _, _, _, _, _, _, _, _]) (out := [_, _, _, _, _, _, _, _, _, _, _, _]) rfl (by rfl) rfl Try.call13 (gmay_d (oldT W0) _ a (srcOld ha) la) rfl HM476.out [0] rfl (covS_box 10 rfl (covS_box 9 rfl (covS_box 8 rfl (covS_box 6 rfl covS_nil)))) rfl rfl ?_
          rintro W478 hm477 hg479
          rw [hma.out]
          have HM480 := Lib.hid hm477
          clear hm477
          simp only [Act.put, List.setIfInBounds_toArray, List.set_cons_succ, List.set_cons_zero]
          refine wpS_this [2, 3] rfl (by kernel_rfl) (by simp only [pickL, nthL, List.cons_append, List.nil_append]; rfl) ?_
          repeat (go_big_quiet_step (fail))
          refine wpQuiet_nil ?_
          refine wpS_skip (i := 4) (d := some 100) rfl (by rfl) rfl ?_
          simp only [Act.put, List.setIfInBounds_toArray, List.set_cons_succ, List.set_cons_zero]
          refine wpS_skip (i := 5) (d := some 101) rfl (by rfl) rfl ?_
          simp only [Act.put, List.setIfInBounds_toArray, List.set_cons_succ, List.set_cons_zero]
          refine wpS_this [6, 7, 8] rfl (by kernel_rfl) (by simp only [pickL, nthL, List.cons_append, List.nil_append]; rfl) ?_
          repeat (go_big_quiet_step (fail))
          refine wpQuiet_nil ?_
          refine wpS_skip (i := 9) (d := some 105) rfl (by rfl) rfl ?_
          simp only [Act.put, List.setIfInBounds_toArray, List.set_cons_succ, List.set_cons_zero]
          refine wpS_skip (i := 10) (d := some 106) rfl (by rfl) rfl ?_
          simp only [Act.put, List.setIfInBounds_toArray, List.set_cons_succ, List.set_cons_zero]
          refine wpS_this [11, 12] rfl (by kernel_rfl) (by simp only [pickL, nthL, List.cons_append, List.nil_append]; rfl) ?_
          repeat (go_big_quiet_step (fail))
          refine wpQuiet_nil ?_
          refine wpS_loadA (i := 13) (d := some 109) (cells := rgC (a) (.slice pa a.p.2.2.length ca)) rfl (by rfl) rfl rfl (HM480.out.sub 11 rfl (fun k u h => by rw [Nat.zero_add]; exact h)) Try.underlying30 rfl (by kernel_rfl) rfl ?_
          simp only [Act.put, List.setIfInBounds_toArray, List.set_cons_succ, List.set_cons_zero]
          refine wpS_loadA (i := 14) (d := some 110) (cells := rgC (b) (.slice pb b.p.2.2.length cb)) rfl (by rfl) rfl rfl (HM480.out.sub 10 rfl (fun k u h => by rw [Nat.zero_add]; exact h)) Try.underlying30 rfl (by kernel_rfl) rfl ?_
          simp only [Act.put, List.setIfInBounds_toArray, List.set_cons_succ, List.set_cons_zero]
          refine wpS_loadA2 (i := 16) (d := some 112) (cells := rgC (a) (.slice pa a.p.2.2.length ca)) rfl (by rfl) rfl rfl (by simp) (HM480.out.sub 11 rfl (fun k u h => by rw [Nat.zero_add]; exact h)) Try.underlying30 rfl (by kernel_rfl) rfl ?_
          simp only [Act.put, List.setIfInBounds_toArray, List.set_cons_succ, List.set_cons_zero]
          refine wpS_loadA2 (i := 17) (d := some 113) (cells := rgC (b) (.slice pb b.p.2.2.length cb)) rfl (by rfl) rfl rfl (by simp) (HM480.out.sub 10 rfl (fun k u h => by rw [Nat.zero_add]; exact h)) Try.underlying30 rfl (by kernel_rfl) rfl ?_
          simp only [Act.put, List.setIfInBounds_toArray, List.set_cons_succ, List.set_cons_zero]
          refine wpS_does2 (i := 15) (d := some 111) (rem := [_, _, _, _, _, _, _, _, _, _, _]) (out := [_, _, _, _, _, _, _, _, _, _, _, _]) rfl (by rfl) rfl Try.call11 (gsame_d (oldT W0) _ a (srcOld ha) la _ b (srcOld hb) lb) rfl rfl HM480.out [0] rfl (covS_box 10 rfl (covS_box 9 rfl (covS_box 8 rfl (covS_box 6 rfl covS_nil)))) rfl rfl ?_
          rintro W482 hm481 hg483
          rw [hs.out]
          have HM484 := Lib.hid hm481
          clear hm481
          simp only [Act.put, List.setIfInBounds_toArray, List.set_cons_succ, List.set_cons_zero]
          refine wpS_does2 (i := 18) (d := some 114) (rem := [_, _, _, _, _, _, _, _, _, _, _]) (out := [_, _, _, _, _, _, _, _, _, _, _, _]) rfl (by rfl) rfl Try.call14 (rsame_d (oldT W0) _ a (srcOld ha) la _ b (srcOld hb) lb) rfl rfl HM484.out [0] rfl (covS_box 10 rfl (covS_box 9 rfl (covS_box 8 rfl (covS_box 6 rfl covS_nil)))) rfl rfl ?_
          rintro W486 hm485 hg487
          rw [hs.out]
          have HM488 := Lib.hid hm485
          clear hm485
          simp only [Act.put, List.setIfInBounds_toArray, List.set_cons_succ, List.set_cons_zero]
          refine wpS_this [19, 20, 21] rfl (by kernel_rfl) (by simp only [pickL, nthL, List.cons_append, List.nil_append]; rfl) ?_
          repeat (go_big_quiet_step (fail))
          refine wpQuiet_nil ?_
          refine wpS_does0 (i := 22) (d := some 118) (rem := [_, _, _, _, _, _, _, _, _, _, _, _]) (out := [_, _, _, _, _, _, _, _, _, _, _, _]) rfl (by rfl) rfl Try.call9 (gawake_d)  HM488.out [] rfl (covS_box 11 rfl (covS_box 10 rfl (covS_box 9 rfl (covS_box 7 rfl covS_nil)))) rfl rfl ?_
          rintro W490 hm489 hg491
          have HM492 := Lib.hid hm489
          clear hm489
          simp only [Act.put, List.setIfInBounds_toArray, List.set_cons_succ, List.set_cons_zero]
          refine wpS_this [23, 24] rfl (by kernel_rfl) (by simp only [pickL, nthL, List.cons_append, List.nil_append]; rfl) ?_
          repeat (go_big_quiet_step (fail))
          refine wpQuiet_nil ?_
          refine wpS_nil ?_
          refine then_normal ?_
          refine wp_ret ?_
          refine bodyPost_ret (results_tmp rfl _ _ _) rfl ?_
          exact does_ret (Mem.only (M := [_]) HM492.out [0] rfl) rfl rfl
        · replace hma := Lib.hid hma
          replace hmb := Lib.hid hmb
          refine wp_region_M (fun k => k ∈ ([b3, b7, b11, b28] : List Nat)) [(0, 1), (1, 3), (2, 1), (3, 1), (4, 1), (5, 3), (6, 1), (7, 1), (8, 1), (9, 1), (10, 3), (11, 1), (12, 1), (13, 1), (14, 1), (16, 2), (17, 2), (15, 3), (18, 3), (19, 1), (20, 1), (21, 1), (22, 3), (23, 1), (24, 1)] (by kernel_rfl) (by kernel_rfl) HM473.out ?_
          intro W493 hm494
          have HM495 := Lib.hid hm494
          clear hm494
          refine wpS_loadA (i := 0) (d := some 96) (cells := rgC (a) (.slice pa a.p.2.2.length ca)) rfl (by rfl) rfl rfl (HM495.out.sub 11 rfl (fun k u h => by rw [Nat.zero_add]; exact h)) Try.underlying30 rfl (by kernel_rfl) rfl ?_
          simp only [Act.put, List.setIfInBounds_toArray, List.set_cons_succ, List.set_cons_zero]
          refine wpS_does1 (i := 1) (d := some 97) (rem := [_, _, _, _, _, _, _, _, _, _, _]) (out := [_, _, _, _, _, _, _, _, _, _, _, _]) rfl (by rfl) rfl Try.call13 (gmay_d (oldT W0) _ a (srcOld ha) la) rfl HM495.out [0] rfl (covS_box 10 rfl (covS_box 9 rfl (covS_box 8 rfl (covS_box 6 rfl covS_nil)))) rfl rfl ?_
          rintro W497 hm496 hg498
          rw [hma.out]
          have HM499 := Lib.hid hm496
          clear hm496
          simp only [Act.put, List.setIfInBounds_toArray, List.set_cons_succ, List.set_cons_zero]
          refine wpS_this [2, 3] rfl (by kernel_rfl) (by simp only [pickL, nthL, List.cons_append, List.nil_append]; rfl) ?_
          repeat (go_big_quiet_step (fail))
          refine wpQuiet_nil ?_
          refine wpS_loadA (i := 4) (d := some 100) (cells := rgC (b) (.slice pb b.p.2.2.length cb)) rfl (by rfl) rfl rfl (HM499.out.sub 10 rfl (fun k u h => by rw [Nat.zero_add]; exact h)) Try.underlying30 rfl (by kernel_rfl) rfl ?_
          simp only [Act.put, List.setIfInBounds_toArray, List.set_cons_succ, List.set_cons_zero]
          refine wpS_does1 (i := 5) (d := some 101) (rem := [_, _, _, _, _, _, _, _, _, _, _]) (out := [_, _, _, _, _, _, _, _, _, _, _, _]) rfl (by rfl) rfl Try.call13 (gmay_d (oldT W0) _ b (srcOld hb) lb) rfl HM499.out [0] rfl (covS_box 10 rfl (covS_box 9 rfl (covS_box 8 rfl (covS_box 6 rfl covS_nil)))) rfl rfl ?_
          rintro W501 hm500 hg502
          rw [hmb.out]
          have HM503 := Lib.hid hm500
          clear hm500
          simp only [Act.put, List.setIfInBounds_toArray, List.set_cons_succ, List.set_cons_zero]
          refine wpS_this [6, 7, 8] rfl (by kernel_rfl) (by simp only [pickL, nthL, List.cons_append, List.nil_append]; rfl) ?_
          repeat (go_big_quiet_step (fail))
          refine wpQuiet_nil ?_
          refine wpS_skip (i := 9) (d := some 105) rfl (by rfl) rfl ?_
          simp only [Act.put, List.setIfInBounds_toArray, List.set_cons_succ, List.set_cons_zero]
          refine wpS_skip (i := 10) (d := some 106) rfl (by rfl) rfl ?_
          simp only [Act.put, List.setIfInBounds_toArray, List.set_cons_succ, List.set_cons_zero]
          refine wpS_this [11, 12] rfl (by kernel_rfl) (by simp only [pickL, nthL, List.cons_append, List.nil_append]; rfl) ?_
          repeat (go_big_quiet_step (fail))
          refine wpQuiet_nil ?_
          refine wpS_loadA (i := 13) (d := some 109) (cells := rgC (a) (.slice pa a.p.2.2.length ca)) rfl (by rfl) rfl rfl (HM503.out.sub 11 rfl (fun k u h => by rw [Nat.zero_add]; exact h)) Try.underlying30 rfl (by kernel_rfl) rfl ?_
          simp only [Act.put, List.setIfInBounds_toArray, List.set_cons_succ, List.set_cons_zero]
          refine wpS_loadA (i := 14) (d := some 110) (cells := rgC (b) (.slice pb b.p.2.2.length cb)) rfl (by rfl) rfl rfl (HM503.out.sub 10 rfl (fun k u h => by rw [Nat.zero_add]; exact h)) Try.underlying30 rfl (by kernel_rfl) rfl ?_
          simp only [Act.put, List.setIfInBounds_toArray, List.set_cons_succ, List.set_cons_zero]
          refine wpS_loadA2 (i := 16) (d := some 112) (cells := rgC (a) (.slice pa a.p.2.2.length ca)) rfl (by rfl) rfl rfl (by simp) (HM503.out.sub 11 rfl (fun k u h => by rw [Nat.zero_add]; exact h)) Try.underlying30 rfl (by kernel_rfl) rfl ?_
          simp only [Act.put, List.setIfInBounds_toArray, List.set_cons_succ, List.set_cons_zero]
          refine wpS_loadA2 (i := 17) (d := some 113) (cells := rgC (b) (.slice pb b.p.2.2.length cb)) rfl (by rfl) rfl rfl (by simp) (HM503.out.sub 10 rfl (fun k u h => by rw [Nat.zero_add]; exact h)) Try.underlying30 rfl (by kernel_rfl) rfl ?_
          simp only [Act.put, List.setIfInBounds_toArray, List.set_cons_succ, List.set_cons_zero]
          refine wpS_does2 (i := 15) (d := some 111) (rem := [_, _, _, _, _, _, _, _, _, _, _]) (out := [_, _, _, _, _, _, _, _, _, _, _, _]) rfl (by rfl) rfl Try.call11 (gsame_d (oldT W0) _ a (srcOld ha) la _ b (srcOld hb) lb) rfl rfl HM503.out [0] rfl (covS_box 10 rfl (covS_box 9 rfl (covS_box 8 rfl (covS_box 6 rfl covS_nil)))) rfl rfl ?_
          rintro W505 hm504 hg506
          rw [hs.out]
          have HM507 := Lib.hid hm504
          clear hm504
          simp only [Act.put, List.setIfInBounds_toArray, List.set_cons_succ, List.set_cons_zero]
          refine wpS_does2 (i := 18) (d := some 114) (rem := [_, _, _, _, _, _, _, _, _, _, _]) (out := [_, _, _, _, _, _, _, _, _, _, _, _]) rfl (by rfl) rfl Try.call14 (rsame_d (oldT W0) _ a (srcOld ha) la _ b (srcOld hb) lb) rfl rfl HM507.out [0] rfl (covS_box 10 rfl (covS_box 9 rfl (covS_box 8 rfl (covS_box 6 rfl covS_nil)))) rfl rfl ?_
          rintro W509 hm508 hg510
          rw [hs.out]
          have HM511 := Lib.hid hm508
          clear hm508
          simp only [Act.put, List.setIfInBounds_toArray, List.set_cons_succ, List.set_cons_zero]
          refine wpS_this [19, 20, 21] rfl (by kernel_rfl) (by simp only [pickL, nthL, List.cons_append, List.nil_append]; rfl) ?_
          repeat (go_big_quiet_step (fail))
          refine wpQuiet_nil ?_
          refine wpS_does0 (i := 22) (d := some 118) (rem := [_, _, _, _, _, _, _, _, _, _, _, _]) (out := [_, _, _, _, _, _, _, _, _, _, _, _]) rfl (by rfl) rfl Try.call9 (gawake_d)  HM511.out [] rfl (covS_box 11 rfl (covS_box 10 rfl (covS_box 9 rfl (covS_box 7 rfl covS_nil)))) rfl rfl ?_
          rintro W513 hm512 hg514
          have HM515 := Lib.hid hm512
          clear hm512
          simp only [Act.put, List.setIfInBounds_toArray, List.set_cons_succ, List.set_cons_zero]
          refine wpS_this [23, 24] rfl (by kernel_rfl) (by simp only [pickL, nthL, List.cons_append, List.nil_append]; rfl) ?_
          repeat (go_big_quiet_step (fail))
          refine wpQuiet_nil ?_
          refine wpS_nil ?_
          refine then_normal ?_
          refine wp_ret ?_
          refine bodyPost_ret (results_tmp rfl _ _ _) rfl ?_
          exact does_ret (Mem.only (M := [_]) HM515.out [0] rfl) rfl rfl
        · have hmx : Hid (mayR x = true) := Lib.hid (by rw [← hx.out]; exact mayR_join hma hmb)
          replace hma := Lib.hid hma
          replace hmb := Lib.hid hmb
          refine wp_region_M (fun k => k ∈ ([b3, b7, b11, b28] : List Nat)) [(0, 1), (1, 3), (2, 1), (3, 1), (4, 1), (5, 3), (6, 1), (7, 1), (8, 1), (9, 1), (10, 3), (11, 1), (12, 1), (13, 1), (14, 1), (16, 2), (17, 2), (15, 3), (18, 3), (19, 1), (20, 1), (21, 1), (22, 3), (23, 1), (24, 1)] (by kernel_rfl) (by kernel_rfl) HM473.out ?_
          intro W516 hm517
          have HM518 := Lib.hid hm517
          clear hm517
          refine wpS_loadA (i := 0) (d := some 96) (cells := rgC (a) (.slice pa a.p.2.2.length ca)) rfl (by rfl) rfl rfl (HM518.out.sub 11 rfl (fun k u h => by rw [Nat.zero_add]; exact h)) Try.underlying30 rfl (by kernel_rfl) rfl ?_
          simp only [Act.put, List.setIfInBounds_toArray, List.set_cons_succ, List.set_cons_zero]
          refine wpS_does1 (i := 1) (d := some 97) (rem := [_, _, _, _, _, _, _, _, _, _, _]) (out := [_, _, _, _, _, _, _, _, _, _, _, _]) rfl (by rfl) rfl Try.call13 (gmay_d (oldT W0) _ a (srcOld ha) la) rfl HM518.out [0] rfl (covS_box 10 rfl (covS_box 9 rfl (covS_box 8 rfl (covS_box 6 rfl covS_nil)))) rfl rfl ?_
          rintro W520 hm519 hg521
          rw [hma.out]
          have HM522 := Lib.hid hm519
          clear hm519
          simp only [Act.put, List.setIfInBounds_toArray, List.set_cons_succ, List.set_cons_zero]
          refine wpS_this [2, 3] rfl (by kernel_rfl) (by simp only [pickL, nthL, List.cons_append, List.nil_append]; rfl) ?_
          repeat (go_big_quiet_step (fail))
          refine wpQuiet_nil ?_
          refine wpS_loadA (i := 4) (d := some 100) (cells := rgC (b) (.slice pb b.p.2.2.length cb)) rfl (by rfl) rfl rfl (HM522.out.sub 10 rfl (fun k u h => by rw [Nat.zero_add]; exact h)) Try.underlying30 rfl (by kernel_rfl) rfl ?_
          simp only [Act.put, List.setIfInBounds_toArray, List.set_cons_succ, List.set_cons_zero]
          refine wpS_does1 (i := 5) (d := some 101) (rem := [_, _, _, _, _, _, _, _, _, _, _]) (out := [_, _, _, _, _, _, _, _, _, _, _, _]) rfl (by rfl) rfl Try.call13 (gmay_d (oldT W0) _ b (srcOld hb) lb) rfl HM522.out [0] rfl (covS_box 10 rfl (covS_box 9 rfl (covS_box 8 rfl (covS_box 6 rfl covS_nil)))) rfl rfl ?_
          rintro W524 hm523 hg525
          rw [hmb.out]
          have HM526 := Lib.hid hm523
          clear hm523
          simp only [Act.put, List.setIfInBounds_toArray, List.set_cons_succ, List.set_cons_zero]
          refine wpS_this [6, 7, 8] rfl (by kernel_rfl) (by simp only [pickL, nthL, List.cons_append, List.nil_append]; rfl) ?_
          repeat (go_big_quiet_step (fail))
          refine wpQuiet_nil ?_
          refine wpS_loadA (i := 9) (d := some 105) (cells := rgC (x) (.slice px x.p.2.2.length cx)) rfl (by rfl) rfl rfl (HM526.out.sub 7 rfl (fun k u h => by rw [Nat.zero_add]; exact h)) Try.underlying30 rfl (by kernel_rfl) rfl ?_
          simp only [Act.put, List.setIfInBounds_toArray, List.set_cons_succ, List.set_cons_zero]
          refine wpS_does1 (i := 10) (d := some 106) (rem := [_, _, _, _, _, _, _, _, _, _, _]) (out := [_, _, _, _, _, _, _, _, _, _, _, _]) rfl (by rfl) rfl Try.call13 (gmay_d (rowT elemI _ _) _ x rowT_reads lx) rfl HM526.out [1] rfl (covS_box 10 rfl (covS_box 9 rfl (covS_box 8 rfl (covS_box 6 rfl covS_nil)))) rfl rfl ?_
          rintro W528 hm527 hg529
          rw [hmx.out]
          have HM530 := Lib.hid hm527
          clear hm527
          simp only [Act.put, List.setIfInBounds_toArray, List.set_cons_succ, List.set_cons_zero]
          refine wpS_this [11, 12] rfl (by kernel_rfl) (by simp only [pickL, nthL, List.cons_append, List.nil_append]; rfl) ?_
          repeat (go_big_quiet_step (fail))
          refine wpQuiet_nil ?_
          refine wpS_loadA (i := 13) (d := some 109) (cells := rgC (a) (.slice pa a.p.2.2.length ca)) rfl (by rfl) rfl rfl (HM530.out.sub 11 rfl (fun k u h => by rw [Nat.zero_add]; exact h)) Try.underlying30 rfl (by kernel_rfl) rfl ?_
          simp only [Act.put, List.setIfInBounds_toArray, List.set_cons_succ, List.set_cons_zero]
          refine wpS_loadA (i := 14) (d := some 110) (cells := rgC (b) (.slice pb b.p.2.2.length cb)) rfl (by rfl) rfl rfl (HM530.out.sub 10 rfl (fun k u h => by rw [Nat.zero_add]; exact h)) Try.underlying30 rfl (by kernel_rfl) rfl ?_
          simp only [Act.put, List.setIfInBounds_toArray, List.set_cons_succ, List.set_cons_zero]
          refine wpS_loadA2 (i := 16) (d := some 112) (cells := rgC (a) (.slice pa a.p.2.2.length ca)) rfl (by rfl) rfl rfl (by simp) (HM530.out.sub 11 rfl (fun k u h => by rw [Nat.zero_add]; exact h)) Try.underlying30 rfl (by kernel_rfl) rfl ?_
          simp only [Act.put, List.setIfInBounds_toArray, List.set_cons_succ, List.set_cons_zero]
          refine wpS_loadA2 (i := 17) (d := some 113) (cells := rgC (b) (.slice pb b.p.2.2.length cb)) rfl (by rfl) rfl rfl (by simp) (HM530.out.sub 10 rfl (fun k u h => by rw [Nat.zero_add]; exact h)) Try.underlying30 rfl (by kernel_rfl) rfl ?_
          simp only [Act.put, List.setIfInBounds_toArray, List.set_cons_succ, List.set_cons_zero]
          refine wpS_does2 (i := 15) (d := some 111) (rem := [_, _, _, _, _, _, _, _, _, _, _]) (out := [_, _, _, _, _, _, _, _, _, _, _, _]) rfl (by rfl) rfl Try.call11 (gsame_d (oldT W0) _ a (srcOld ha) la _ b (srcOld hb) lb) rfl rfl HM530.out [1] rfl (covS_box 10 rfl (covS_box 9 rfl (covS_box 8 rfl (covS_box 6 rfl covS_nil)))) rfl rfl ?_
          rintro W532 hm531 hg533
          rw [hs.out]
          have HM534 := Lib.hid hm531
          clear hm531
          simp only [Act.put, List.setIfInBounds_toArray, List.set_cons_succ, List.set_cons_zero]
          refine wpS_does2 (i := 18) (d := some 114) (rem := [_, _, _, _, _, _, _, _, _, _, _]) (out := [_, _, _, _, _, _, _, _, _, _, _, _]) rfl (by rfl) rfl Try.call14 (rsame_d (oldT W0) _ a (srcOld ha) la _ b (srcOld hb) lb) rfl rfl HM534.out [0] rfl (covS_box 10 rfl (covS_box 9 rfl (covS_box 8 rfl (covS_box 6 rfl covS_nil)))) rfl rfl ?_
          rintro W536 hm535 hg537
          rw [hs.out]
          have HM538 := Lib.hid hm535
          clear hm535
          simp only [Act.put, List.setIfInBounds_toArray, List.set_cons_succ, List.set_cons_zero]
          refine wpS_this [19, 20, 21] rfl (by kernel_rfl) (by simp only [pickL, nthL, List.cons_append, List.nil_append]; rfl) ?_
          repeat (go_big_quiet_step (fail))
          refine wpQuiet_nil ?_
          refine wpS_does0 (i := 22) (d := some 118) (rem := [_, _, _, _, _, _, _, _, _, _, _, _]) (out := [_, _, _, _, _, _, _, _, _, _, _, _]) rfl (by rfl) rfl Try.call9 (gawake_d)  HM538.out [] rfl (covS_box 11 rfl (covS_box 10 rfl (covS_box 9 rfl (covS_box 7 rfl covS_nil)))) rfl rfl ?_
          rintro W540 hm539 hg541
          have HM542 := Lib.hid hm539
          clear hm539
          simp only [Act.put, List.setIfInBounds_toArray, List.set_cons_succ, List.set_cons_zero]
          refine wpS_this [23, 24] rfl (by kernel_rfl) (by simp only [pickL, nthL, List.cons_append, List.nil_append]; rfl) ?_
          repeat (go_big_quiet_step (fail))
          refine wpQuiet_nil ?_
          refine wpS_nil ?_
          refine then_normal ?_
          refine wp_ret ?_
          refine bodyPost_ret (results_tmp rfl _ _ _) rfl ?_
          exact does_ret (Mem.only (M := [_]) HM542.out [0] rfl) rfl rfl
      · have hba' : belowR b a = s := (below_anti hab).trans hs.out
        have hba := Lib.hid hba'
        clear hba'
        have hac2 : Hid (belowR a c = true) := Lib.hid (below_trans hab hbc)
        replace hab := Lib.hid hab
        replace hbc := Lib.hid hbc
        refine wp_region_M (fun k => k ∈ ([b3, b7, b11, b28] : List Nat)) [(0, 1), (1, 1), (2, 3), (3, 1), (4, 1), (5, 1), (6, 3), (7, 1), (8, 1), (9, 1), (10, 1), (11, 3), (12, 1), (13, 1), (14, 1), (15, 1), (16, 1), (17, 3), (18, 1), (19, 1), (20, 1), (22, 2), (23, 2), (21, 3), (24, 3), (25, 1), (26, 1), (27, 1)] (by kernel_rfl) (by kernel_rfl) HM370.out ?_
        intro W543 hm544
        have HM545 := Lib.hid hm544
        clear hm544
        refine wpS_loadA (i := 0) (d := some 68) (cells := rgC (a) (.slice pa a.p.2.2.length ca)) rfl (by rfl) rfl rfl (HM545.out.sub 11 rfl (fun k u h => by rw [Nat.zero_add]; exact h)) Try.underlying30 rfl (by kernel_rfl) rfl ?_
        simp only [Act.put, List.setIfInBounds_toArray, List.set_cons_succ, List.set_cons_zero]
        refine wpS_loadA (i := 1) (d := some 69) (cells := rgC (b) (.slice pb b.p.2.2.length cb)) rfl (by rfl) rfl rfl (HM545.out.sub 10 rfl (fun k u h => by rw [Nat.zero_add]; exact h)) Try.underlying30 rfl (by kernel_rfl) rfl ?_
        simp only [Act.put, List.setIfInBounds_toArray, List.set_cons_succ, List.set_cons_zero]
        refine wpS_does2 (i := 2) (d := some 70) (rem := [_, _, _, _, _, _, _, _, _, _, _]) (out := [_, _, _, _, _, _, _, _, _, _, _, _]) rfl (by rfl) rfl Try.call12 (gbelow_d (oldT W0) _ a (srcOld ha) la _ b (srcOld hb) lb) rfl rfl HM545.out [0] rfl (covS_box 10 rfl (covS_box 9 rfl (covS_box 8 rfl (covS_box 6 rfl covS_nil)))) rfl rfl ?_
        rintro W547 hm546 hg548
        rw [hab.out]
        have HM549 := Lib.hid hm546
        clear hm546
        simp only [Act.put, List.setIfInBounds_toArray, List.set_cons_succ, List.set_cons_zero]
        refine wpS_this [3] rfl (by kernel_rfl) (by simp only [pickL, nthL, List.cons_append, List.nil_append]; rfl) ?_
        repeat (go_big_quiet_step (fail))
        refine wpQuiet_nil ?_
        refine wpS_loadA (i := 4) (d := some 72) (cells := rgC (b) (.slice pb b.p.2.2.length cb)) rfl (by rfl) rfl rfl (HM549.out.sub 10 rfl (fun k u h => by rw [Nat.zero_add]; exact h)) Try.underlying30 rfl (by kernel_rfl) rfl ?_
        simp only [Act.put, List.setIfInBounds_toArray, List.set_cons_succ, List.set_cons_zero]
        refine wpS_loadA (i := 5) (d := some 73) (cells := rgC (c) (.slice pc c.p.2.2.length cc)) rfl (by rfl) rfl rfl (HM549.out.sub 9 rfl (fun k u h => by rw [Nat.zero_add]; exact h)) Try.underlying30 rfl (by kernel_rfl) rfl ?_
        simp only [Act.put, List.setIfInBounds_toArray, List.set_cons_succ, List.set_cons_zero]
        refine wpS_does2 (i := 6) (d := some 74) (rem := [_, _, _, _, _, _, _, _, _, _, _]) (out := [_, _, _, _, _, _, _, _, _, _, _, _]) rfl (by rfl) rfl Try.call12 (gbelow_d (oldT W0) _ b (srcOld hb) lb _ c (srcOld hc) lc) rfl rfl HM549.out [0] rfl (covS_box 10 rfl (covS_box 9 rfl (covS_box 8 rfl (covS_box 6 rfl covS_nil)))) rfl rfl ?_
        rintro W551 hm550 hg552
        rw [hbc.out]
        have HM553 := Lib.hid hm550
        clear hm550
        simp only [Act.put, List.setIfInBounds_toArray, List.set_cons_succ, List.set_cons_zero]
        refine wpS_this [7, 8] rfl (by kernel_rfl) (by simp only [pickL, nthL, List.cons_append, List.nil_append]; rfl) ?_
        repeat (go_big_quiet_step (fail))
        refine wpQuiet_nil ?_
        refine wpS_loadA (i := 9) (d := some 77) (cells := rgC (a) (.slice pa a.p.2.2.length ca)) rfl (by rfl) rfl rfl (HM553.out.sub 11 rfl (fun k u h => by rw [Nat.zero_add]; exact h)) Try.underlying30 rfl (by kernel_rfl) rfl ?_
        simp only [Act.put, List.setIfInBounds_toArray, List.set_cons_succ, List.set_cons_zero]
        refine wpS_loadA (i := 10) (d := some 78) (cells := rgC (c) (.slice pc c.p.2.2.length cc)) rfl (by rfl) rfl rfl (HM553.out.sub 9 rfl (fun k u h => by rw [Nat.zero_add]; exact h)) Try.underlying30 rfl (by kernel_rfl) rfl ?_
        simp only [Act.put, List.setIfInBounds_toArray, List.set_cons_succ, List.set_cons_zero]
        refine wpS_does2 (i := 11) (d := some 79) (rem := [_, _, _, _, _, _, _, _, _, _, _]) (out := [_, _, _, _, _, _, _, _, _, _, _, _]) rfl (by rfl) rfl Try.call12 (gbelow_d (oldT W0) _ a (srcOld ha) la _ c (srcOld hc) lc) rfl rfl HM553.out [0] rfl (covS_box 10 rfl (covS_box 9 rfl (covS_box 8 rfl (covS_box 6 rfl covS_nil)))) rfl rfl ?_
        rintro W555 hm554 hg556
        rw [hac2.out]
        have HM557 := Lib.hid hm554
        clear hm554
        simp only [Act.put, List.setIfInBounds_toArray, List.set_cons_succ, List.set_cons_zero]
        refine wpS_this [12, 13, 14] rfl (by kernel_rfl) (by simp only [pickL, nthL, List.cons_append, List.nil_append]; rfl) ?_
        repeat (go_big_quiet_step (fail))
        refine wpQuiet_nil ?_
        refine wpS_loadA (i := 15) (d := some 83) (cells := rgC (a) (.slice pa a.p.2.2.length ca)) rfl (by rfl) rfl rfl (HM557.out.sub 11 rfl (fun k u h => by rw [Nat.zero_add]; exact h)) Try.underlying30 rfl (by kernel_rfl) rfl ?_
        simp only [Act.put, List.setIfInBounds_toArray, List.set_cons_succ, List.set_cons_zero]
        refine wpS_loadA (i := 16) (d := some 84) (cells := rgC (b) (.slice pb b.p.2.2.length cb)) rfl (by rfl) rfl rfl (HM557.out.sub 10 rfl (fun k u h => by rw [Nat.zero_add]; exact h)) Try.underlying30 rfl (by kernel_rfl) rfl ?_
        simp only [Act.put, List.setIfInBounds_toArray, List.set_cons_succ, List.set_cons_zero]
        refine wpS_does2 (i := 17) (d := some 85) (rem := [_, _, _, _, _, _, _, _, _, _, _]) (out := [_, _, _, _, _, _, _, _, _, _, _, _]) rfl (by rfl) rfl Try.call12 (gbelow_d (oldT W0) _ a (srcOld ha) la _ b (srcOld hb) lb) rfl rfl HM557.out [0] rfl (covS_box 10 rfl (covS_box 9 rfl (covS_box 8 rfl (covS_box 6 rfl covS_nil)))) rfl rfl ?_
        rintro W559 hm558 hg560
        rw [hab.out]
        have HM561 := Lib.hid hm558
        clear hm558
        simp only [Act.put, List.setIfInBounds_toArray, List.set_cons_succ, List.set_cons_zero]
        refine wpS_this [18] rfl (by kernel_rfl) (by simp only [pickL, nthL, List.cons_append, List.nil_append]; rfl) ?_
        repeat (go_big_quiet_step (fail))
        refine wpQuiet_nil ?_
        refine wpS_loadA (i := 19) (d := some 87) (cells := rgC (b) (.slice pb b.p.2.2.length cb)) rfl (by rfl) rfl rfl (HM561.out.sub 10 rfl (fun k u h => by rw [Nat.zero_add]; exact h)) Try.underlying30 rfl (by kernel_rfl) rfl ?_
        simp only [Act.put, List.setIfInBounds_toArray, List.set_cons_succ, List.set_cons_zero]
        refine wpS_loadA (i := 20) (d := some 88) (cells := rgC (a) (.slice pa a.p.2.2.length ca)) rfl (by rfl) rfl rfl (HM561.out.sub 11 rfl (fun k u h => by rw [Nat.zero_add]; exact h)) Try.underlying30 rfl (by kernel_rfl) rfl ?_
        simp only [Act.put, List.setIfInBounds_toArray, List.set_cons_succ, List.set_cons_zero]
        refine wpS_loadA2 (i := 22) (d := some 90) (cells := rgC (a) (.slice pa a.p.2.2.length ca)) rfl (by rfl) rfl rfl (by simp) (HM561.out.sub 11 rfl (fun k u h => by rw [Nat.zero_add]; exact h)) Try.underlying30 rfl (by kernel_rfl) rfl ?_
        simp only [Act.put, List.setIfInBounds_toArray, List.set_cons_succ, List.set_cons_zero]
        refine wpS_loadA2 (i := 23) (d := some 91) (cells := rgC (b) (.slice pb b.p.2.2.length cb)) rfl (by rfl) rfl rfl (by simp) (HM561.out.sub 10 rfl (fun k u h => by rw [Nat.zero_add]; exact h)) Try.underlying30 rfl (by kernel_rfl) rfl ?_
        simp only [Act.put, List.setIfInBounds_toArray, List.set_cons_succ, List.set_cons_zero]
        refine wpS_does2 (i := 21) (d := some 89) (rem := [_, _, _, _, _, _, _, _, _, _, _]) (out := [_, _, _, _, _, _, _, _, _, _, _, _]) rfl (by rfl) rfl Try.call12 (gbelow_d (oldT W0) _ b (srcOld hb) lb _ a (srcOld ha) la) rfl rfl HM561.out [0] rfl (covS_box 10 rfl (covS_box 9 rfl (covS_box 8 rfl (covS_box 6 rfl covS_nil)))) rfl rfl ?_
        rintro W563 hm562 hg564
        rw [hba.out]
        have HM565 := Lib.hid hm562
        clear hm562
        simp only [Act.put, List.setIfInBounds_toArray, List.set_cons_succ, List.set_cons_zero]
        refine wpS_does2 (i := 24) (d := some 92) (rem := [_, _, _, _, _, _, _, _, _, _, _]) (out := [_, _, _, _, _, _, _, _, _, _, _, _]) rfl (by rfl) rfl Try.call11 (gsame_d (oldT W0) _ a (srcOld ha) la _ b (srcOld hb) lb) rfl rfl HM565.out [0] rfl (covS_box 10 rfl (covS_box 9 rfl (covS_box 8 rfl (covS_box 6 rfl covS_nil)))) rfl rfl ?_
        rintro W567 hm566 hg568
        rw [hs.out]
        have HM569 := Lib.hid hm566
        clear hm566
        simp only [Act.put, List.setIfInBounds_toArray, List.set_cons_succ, List.set_cons_zero]
        refine wpS_this [25, 26, 27] rfl (by kernel_rfl) (by simp only [pickL, nthL, List.cons_append, List.nil_append]; rfl) ?_
        repeat (go_big_quiet_step (fail))
        refine wpQuiet_nil ?_
        refine wpS_nil ?_
        refine then_normal ?_
        refine wp_cond_false rfl ?_
        refine wp_skip ?_
        refine then_normal ?_
        refine wp_seq ?_
        rcases (show mayR a = false ∨ (mayR a = true ∧ mayR b = false) ∨ (mayR a = true ∧ mayR b = true) from by cases mayR a <;> cases mayR b <;> simp) with hma | ⟨hma, hmb⟩ | ⟨hma, hmb⟩
        · replace hma := Lib.hid hma
          refine wp_region_M (fun k => k ∈ ([b3, b7, b11, b28] : List Nat)) [(0, 1), (1, 3), (2, 1), (3, 1), (4, 1), (5, 3), (6, 1), (7, 1), (8, 1), (9, 1), (10, 3), (11, 1), (12, 1), (13, 1), (14, 1), (16, 2), (17, 2), (15, 3), (18, 3), (19, 1), (20, 1), (21, 1), (22, 3), (23, 1), (24, 1)] (by kernel_rfl) (by kernel_rfl) HM569.out ?_
          intro W570 hm571
          have HM572 := Lib.hid hm571
          clear hm571
          refine wpS_loadA (i := 0) (d := some 96) (cells := rgC (a) (.slice pa a.p.2.2.length ca)) rfl (by rfl) rfl rfl (HM572.out.sub 11 rfl (fun k u h => by rw [Nat.zero_add]; exact h)) Try.underlying30 rfl (by kernel_rfl) rfl ?_
          simp only [Act.put, List.setIfInBounds_toArray, List.set_cons_succ, List.set_cons_zero]
          refine wpS_does1 (i := 1) (d := some 97) (rem := [_, _, _, _, _, _, _, _, _, _, _]) (out := [_, _, _, _, _, _, _, _, _, _, _, _]) rfl (by rfl) rfl Try.call13 (gmay_d (oldT W0) _ a (srcOld ha) la) rfl HM572.out [0] rfl (covS_box 10 rfl (covS_box 9 rfl (covS_box 8 rfl (covS_box 6 rfl covS_nil)))) rfl rfl ?_
          rintro W574 hm573 hg575
          rw [hma.out]
          have HM576 := Lib.hid hm573
          clear hm573
          simp only [Act.put, List.setIfInBounds_toArray, List.set_cons_succ, List.set_cons_zero]
          refine wpS_this [2, 3] rfl (by kernel_rfl) (by simp only [pickL, nthL, List.cons_append, List.nil_append]; rfl) ?_
          repeat (go_big_quiet_step (fail))
          refine wpQuiet_nil ?_
          refine wpS_skip (i := 4) (d := some 100) rfl (by rfl) rfl ?_
          simp only [Act.put, List.setIfInBounds_toArray, List.set_cons_succ, List.set_cons_zero]
          refine wpS_skip (i := 5) (d := some 101) rfl (by rfl) rfl ?_
          simp only [Act.put, List.setIfInBounds_toArray, List.set_cons_succ, List.set_cons_zero]
          refine wpS_this [6, 7, 8] rfl (by kernel_rfl) (by simp only [pickL, nthL, List.cons_append, List.nil_append]; rfl) ?_
          repeat (go_big_quiet_step (fail))
          refine wpQuiet_nil ?_
          refine wpS_skip (i := 9) (d := some 105) rfl (by rfl) rfl ?_
          simp only [Act.put, List.setIfInBounds_toArray, List.set_cons_succ, List.set_cons_zero]
          refine wpS_skip (i := 10) (d := some 106) rfl (by rfl) rfl ?_
          simp only [Act.put, List.setIfInBounds_toArray, List.set_cons_succ, List.set_cons_zero]
          refine wpS_this [11, 12] rfl (by kernel_rfl) (by simp only [pickL, nthL, List.cons_append, List.nil_append]; rfl) ?_
          repeat (go_big_quiet_step (fail))
          refine wpQuiet_nil ?_
          refine wpS_loadA (i := 13) (d := some 109) (cells := rgC (a) (.slice pa a.p.2.2.length ca)) rfl (by rfl) rfl rfl (HM576.out.sub 11 rfl (fun k u h => by rw [Nat.zero_add]; exact h)) Try.underlying30 rfl (by kernel_rfl) rfl ?_
          simp only [Act.put, List.setIfInBounds_toArray, List.set_cons_succ, List.set_cons_zero]
          refine wpS_loadA (i := 14) (d := some 110) (cells := rgC (b) (.slice pb b.p.2.2.length cb)) rfl (by rfl) rfl rfl (HM576.out.sub 10 rfl (fun k u h => by rw [Nat.zero_add]; exact h)) Try.underlying30 rfl (by kernel_rfl) rfl ?_
          simp only [Act.put, List.setIfInBounds_toArray, List.set_cons_succ, List.set_cons_zero]
          refine wpS_loadA2 (i := 16) (d := some 112) (cells := rgC (a) (.slice pa a.p.2.2.length ca)) rfl (by rfl) rfl rfl (by simp) (HM576.out.sub 11 rfl (fun k u h => by rw [Nat.zero_add]; exact h)) Try.underlying30 rfl (by kernel_rfl) rfl ?_
          simp only [Act.put, List.setIfInBounds_toArray, List.set_cons_succ, List.set_cons_zero]
          refine wpS_loadA2 (i := 17) (d := some 113) (cells := rgC (b) (.slice pb b.p.2.2.length cb)) rfl (by rfl) rfl rfl (by simp) (HM576.out.sub 10 rfl (fun k u h => by rw [Nat.zero_add]; exact h)) Try.underlying30 rfl (by kernel_rfl) rfl ?_
          simp only [Act.put, List.setIfInBounds_toArray, List.set_cons_succ, List.set_cons_zero]
          refine wpS_does2 (i := 15) (d := some 111) (rem := [_, _, _, _, _, _, _, _, _, _, _]) (out := [_, _, _, _, _, _, _, _, _, _, _, _]) rfl (by rfl) rfl Try.call11 (gsame_d (oldT W0) _ a (srcOld ha) la _ b (srcOld hb) lb) rfl rfl HM576.out [0] rfl (covS_box 10 rfl (covS_box 9 rfl (covS_box 8 rfl (covS_box 6 rfl covS_nil)))) rfl rfl ?_
          rintro W578 hm577 hg579
          rw [hs.out]
          have HM580 := Lib.hid hm577
          clear hm577
          simp only [Act.put, List.setIfInBounds_toArray, List.set_cons_succ, List.set_cons_zero]
          refine wpS_does2 (i := 18) (d := some 114) (rem := [_, _, _, _, _, _, _, _, _, _, _]) (out := [_, _, _, _, _, _, _, _, _, _, _, _]) rfl (by rfl) rfl Try.call14 (rsame_d (oldT W0) _ a (srcOld ha) la _ b (srcOld hb) lb) rfl rfl HM580.out [0] rfl (covS_box 10 rfl (covS_box 9 rfl (covS_box 8 rfl (covS_box 6 rfl covS_nil)))) rfl rfl ?_
          rintro W582 hm581 hg583
          rw [hs.out]
          have HM584 := Lib.hid hm581
          clear hm581
          simp only [Act.put, List.setIfInBounds_toArray, List.set_cons_succ, List.set_cons_zero]
          refine wpS_this [19, 20, 21] rfl (by kernel_rfl) (by simp only [pickL, nthL, List.cons_append, List.nil_append]; rfl) ?_
          repeat (go_big_quiet_step (fail))
          refine wpQuiet_nil ?_
          refine wpS_does0 (i := 22) (d := some 118) (rem := [_, _, _, _, _, _, _, _, _, _, _, _]) (out := [_, _, _, _, _, _, _, _, _, _, _, _]) rfl (by rfl) rfl Try.call9 (gawake_d)  HM584.out [] rfl (covS_box 11 rfl (covS_box 10 rfl (covS_box 9 rfl (covS_box 7 rfl covS_nil)))) rfl rfl ?_
          rintro W586 hm585 hg587
          have HM588 := Lib.hid hm585
          clear hm585
          simp only [Act.put, List.setIfInBounds_toArray, List.set_cons_succ, List.set_cons_zero]
          refine wpS_this [23, 24] rfl (by kernel_rfl) (by simp only [pickL, nthL, List.cons_append, List.nil_append]; rfl) ?_
          repeat (go_big_quiet_step (fail))
          refine wpQuiet_nil ?_
          refine wpS_nil ?_
          refine then_normal ?_
          refine wp_ret ?_
          refine bodyPost_ret (results_tmp rfl _ _ _) rfl ?_
          exact does_ret (Mem.only (M := [_]) HM588.out [0] rfl) rfl rfl
        · replace hma := Lib.hid hma
          replace hmb := Lib.hid hmb
          refine wp_region_M (fun k => k ∈ ([b3, b7, b11, b28] : List Nat)) [(0, 1), (1, 3), (2, 1), (3, 1), (4, 1), (5, 3), (6, 1), (7, 1), (8, 1), (9, 1), (10, 3), (11, 1), (12, 1), (13, 1), (14, 1), (16, 2), (17, 2), (15, 3), (18, 3), (19, 1), (20, 1), (21, 1), (22, 3), (23, 1), (24, 1)] (by kernel_rfl) (by kernel_rfl) HM569.out ?_
          intro W589 hm590
          have HM591 := Lib.hid hm590
          clear hm590
          refine wpS_loadA (i := 0) (d := some 96) (cells := rgC (a) (.slice pa a.p.2.2.length ca)) rfl (by rfl) rfl rfl (HM591.out.sub 11 rfl (fun k u h => by rw [Nat.zero_add]; exact h)) Try.underlying30 rfl (by kernel_rfl) rfl ?_
          simp only [Act.put, List.setIfInBounds_toArray, List.set_cons_succ, List.set_cons_zero]
          refine wpS_does1 (i := 1) (d := some 97) (rem := [_, _, _, _, _, _, _, _, _, _, _]) (out := [_, _, _, _, _, _, _, _, _, _, _, _]) rfl (by rfl) rfl Try.call13 (gmay_d (oldT W0) _ a (srcOld ha) la) rfl HM591.out [0] rfl (covS_box 10 rfl (covS_box 9 rfl (covS_box 8 rfl (covS_box 6 rfl covS_nil)))) rfl rfl ?_
          rintro W593 hm592 hg594
          rw [hma.out]
          have HM595 := Lib.hid hm592
          clear hm592
          simp only [Act.put, List.setIfInBounds_toArray, List.set_cons_succ, List.set_cons_zero]
          refine wpS_this [2, 3] rfl (by kernel_rfl) (by simp only [pickL, nthL, List.cons_append, List.nil_append]; rfl) ?_
          repeat (go_big_quiet_step (fail))
          refine wpQuiet_nil ?_
          refine wpS_loadA (i := 4) (d := some 100) (cells := rgC (b) (.slice pb b.p.2.2.length cb)) rfl (by rfl) rfl rfl (HM595.out.sub 10 rfl (fun k u h => by rw [Nat.zero_add]; exact h)) Try.underlying30 rfl (by kernel_rfl) rfl ?_
          simp only [Act.put, List.setIfInBounds_toArray, List.set_cons_succ, List.set_cons_zero]
          refine wpS_does1 (i := 5) (d := some 101) (rem := [_, _, _, _, _, _, _, _, _, _, _]) (out := [_, _, _, _, _, _, _, _, _, _, _, _]) rfl (by rfl) rfl Try.call13 (gmay_d (oldT W0) _ b (srcOld hb) lb) rfl HM595.out [0] rfl (covS_box 10 rfl (covS_box 9 rfl (covS_box 8 rfl (covS_box 6 rfl covS_nil)))) rfl rfl ?_
          rintro W597 hm596 hg598
          rw [hmb.out]
          have HM599 := Lib.hid hm596
          clear hm596
          simp only [Act.put, List.setIfInBounds_toArray, List.set_cons_succ, List.set_cons_zero]
          refine wpS_this [6, 7, 8] rfl (by kernel_rfl) (by simp only [pickL, nthL, List.cons_append, List.nil_append]; rfl) ?_
          repeat (go_big_quiet_step (fail))
          refine wpQuiet_nil ?_
          refine wpS_skip (i := 9) (d := some 105) rfl (by rfl) rfl ?_
          simp only [Act.put, List.setIfInBounds_toArray, List.set_cons_succ, List.set_cons_zero]
          refine wpS_skip (i := 10) (d := some 106) rfl (by rfl) rfl ?_
          simp only [Act.put, List.setIfInBounds_toArray, List.set_cons_succ, List.set_cons_zero]
          refine wpS_this [11, 12] rfl (by kernel_rfl) (by simp only [pickL, nthL, List.cons_append, List.nil_append]; rfl) ?_
          repeat (go_big_quiet_step (fail))
          refine wpQuiet_nil ?_
          refine wpS_loadA (i := 13) (d := some 109) (cells := rgC (a) (.slice pa a.p.2.2.length ca)) rfl (by rfl) rfl rfl (HM599.out.sub 11 rfl (fun k u h => by rw [Nat.zero_add]; exact h)) Try.underlying30 rfl (by kernel_rfl) rfl ?_
          simp only [Act.put, List.setIfInBounds_toArray, List.set_cons_succ, List.set_cons_zero]
          refine wpS_loadA (i := 14) (d := some 110) (cells := rgC (b) (.slice pb b.p.2.2.length cb)) rfl (by rfl) rfl rfl (HM599.out.sub 10 rfl (fun k u h => by rw [Nat.zero_add]; exact h)) Try.underlying30 rfl (by kernel_rfl) rfl ?_
          simp only [Act.put, List.setIfInBounds_toArray, List.set_cons_succ, List.set_cons_zero]
          refine wpS_loadA2 (i := 16) (d := some 112) (cells := rgC (a) (.slice pa a.p.2.2.length ca)) rfl (by rfl) rfl rfl (by simp) (HM599.out.sub 11 rfl (fun k u h => by rw [Nat.zero_add]; exact h)) Try.underlying30 rfl (by kernel_rfl) rfl ?_
          simp only [Act.put, List.setIfInBounds_toArray, List.set_cons_succ, List.set_cons_zero]
          refine wpS_loadA2 (i := 17) (d := some 113) (cells := rgC (b) (.slice pb b.p.2.2.length cb)) rfl (by rfl) rfl rfl (by simp) (HM599.out.sub 10 rfl (fun k u h => by rw [Nat.zero_add]; exact h)) Try.underlying30 rfl (by kernel_rfl) rfl ?_
          simp only [Act.put, List.setIfInBounds_toArray, List.set_cons_succ, List.set_cons_zero]
          refine wpS_does2 (i := 15) (d := some 111) (rem := [_, _, _, _, _, _, _, _, _, _, _]) (out := [_, _, _, _, _, _, _, _, _, _, _, _]) rfl (by rfl) rfl Try.call11 (gsame_d (oldT W0) _ a (srcOld ha) la _ b (srcOld hb) lb) rfl rfl HM599.out [0] rfl (covS_box 10 rfl (covS_box 9 rfl (covS_box 8 rfl (covS_box 6 rfl covS_nil)))) rfl rfl ?_
          rintro W601 hm600 hg602
          rw [hs.out]
          have HM603 := Lib.hid hm600
          clear hm600
          simp only [Act.put, List.setIfInBounds_toArray, List.set_cons_succ, List.set_cons_zero]
          refine wpS_does2 (i := 18) (d := some 114) (rem := [_, _, _, _, _, _, _, _, _, _, _]) (out := [_, _, _, _, _, _, _, _, _, _, _, _]) rfl (by rfl) rfl Try.call14 (rsame_d (oldT W0) _ a (srcOld ha) la _ b (srcOld hb) lb) rfl rfl HM603.out [0] rfl (covS_box 10 rfl (covS_box 9 rfl (covS_box 8 rfl (covS_box 6 rfl covS_nil)))) rfl rfl ?_
          rintro W605 hm604 hg606
          rw [hs.out]
          have HM607 := Lib.hid hm604
          clear hm604
          simp only [Act.put, List.setIfInBounds_toArray, List.set_cons_succ, List.set_cons_zero]
          refine wpS_this [19, 20, 21] rfl (by kernel_rfl) (by simp only [pickL, nthL, List.cons_append, List.nil_append]; rfl) ?_
          repeat (go_big_quiet_step (fail))
          refine wpQuiet_nil ?_
          refine wpS_does0 (i := 22) (d := some 118) (rem := [_, _, _, _, _, _, _, _, _, _, _, _]) (out := [_, _, _, _, _, _, _, _, _, _, _, _]) rfl (by rfl) rfl Try.call9 (gawake_d)  HM607.out [] rfl (covS_box 11 rfl (covS_box 10 rfl (covS_box 9 rfl (covS_box 7 rfl covS_nil)))) rfl rfl ?_
          rintro W609 hm608 hg610
          have HM611 := Lib.hid hm608
          clear hm608
          simp only [Act.put, List.setIfInBounds_toArray, List.set_cons_succ, List.set_cons_zero]
          refine wpS_this [23, 24] rfl (by kernel_rfl) (by simp only [pickL, nthL, List.cons_append, List.nil_append]; rfl) ?_
          repeat (go_big_quiet_step (fail))
          refine wpQuiet_nil ?_
          refine wpS_nil ?_
          refine then_normal ?_
          refine wp_ret ?_
          refine bodyPost_ret (results_tmp rfl _ _ _) rfl ?_
          exact does_ret (Mem.only (M := [_]) HM611.out [0] rfl) rfl rfl
        · have hmx : Hid (mayR x = true) := Lib.hid (by rw [← hx.out]; exact mayR_join hma hmb)
          replace hma := Lib.hid hma
          replace hmb := Lib.hid hmb
          refine wp_region_M (fun k => k ∈ ([b3, b7, b11, b28] : List Nat)) [(0, 1), (1, 3), (2, 1), (3, 1), (4, 1), (5, 3), (6, 1), (7, 1), (8, 1), (9, 1), (10, 3), (11, 1), (12, 1), (13, 1), (14, 1), (16, 2), (17, 2), (15, 3), (18, 3), (19, 1), (20, 1), (21, 1), (22, 3), (23, 1), (24, 1)] (by kernel_rfl) (by kernel_rfl) HM569.out ?_
          intro W612 hm613
          have HM614 := Lib.hid hm613
          clear hm613
          refine wpS_loadA (i := 0) (d := some 96) (cells := rgC (a) (.slice pa a.p.2.2.length ca)) rfl (by rfl) rfl rfl (HM614.out.sub 11 rfl (fun k u h => by rw [Nat.zero_add]; exact h)) Try.underlying30 rfl (by kernel_rfl) rfl ?_
          simp only [Act.put, List.setIfInBounds_toArray, List.set_cons_succ, List.set_cons_zero]
          refine wpS_does1 (i := 1) (d := some 97) (rem := [_, _, _, _, _, _, _, _, _, _, _]) (out := [_, _, _, _, _, _, _, _, _, _, _, _]) rfl (by rfl) rfl Try.call13 (gmay_d (oldT W0) _ a (srcOld ha) la) rfl HM614.out [0] rfl (covS_box 10 rfl (covS_box 9 rfl (covS_box 8 rfl (covS_box 6 rfl covS_nil)))) rfl rfl ?_
          rintro W616 hm615 hg617
          rw [hma.out]
          have HM618 := Lib.hid hm615
          clear hm615
          simp only [Act.put, List.setIfInBounds_toArray, List.set_cons_succ, List.set_cons_zero]
          refine wpS_this [2, 3] rfl (by kernel_rfl) (by simp only [pickL, nthL, List.cons_append, List.nil_append]; rfl) ?_
          repeat (go_big_quiet_step (fail))
          refine wpQuiet_nil ?_
          refine wpS_loadA (i := 4) (d := some 100) (cells := rgC (b) (.slice pb b.p.2.2.length cb)) rfl (by rfl) rfl rfl (HM618.out.sub 10 rfl (fun k u h => by rw [Nat.zero_add]; exact h)) Try.underlying30 rfl (by kernel_rfl) rfl ?_
          simp only [Act.put, List.setIfInBounds_toArray, List.set_cons_succ, List.set_cons_zero]
          refine wpS_does1 (i := 5) (d := some 101) (rem := [_, _, _, _, _, _, _, _, _, _, _]) (out := [_, _, _, _, _, _, _, _, _, _, _, _]) rfl (by rfl) rfl Try.call13 (gmay_d (oldT W0) _ b (srcOld hb) lb) rfl HM618.out [0] rfl (covS_box 10 rfl (covS_box 9 rfl (covS_box 8 rfl (covS_box 6 rfl covS_nil)))) rfl rfl ?_
          rintro W620 hm619 hg621
          rw [hmb.out]
          have HM622 := Lib.hid hm619
          clear hm619
          simp only [Act.put, List.setIfInBounds_toArray, List.set_cons_succ, List.set_cons_zero]
          refine wpS_this [6, 7, 8] rfl (by kernel_rfl) (by simp only [pickL, nthL, List.cons_append, List.nil_append]; rfl) ?_
          repeat (go_big_quiet_step (fail))
          refine wpQuiet_nil ?_
          refine wpS_loadA (i := 9) (d := some 105) (cells := rgC (x) (.slice px x.p.2.2.length cx)) rfl (by rfl) rfl rfl (HM622.out.sub 7 rfl (fun k u h => by rw [Nat.zero_add]; exact h)) Try.underlying30 rfl (by kernel_rfl) rfl ?_
          simp only [Act.put, List.setIfInBounds_toArray, List.set_cons_succ, List.set_cons_zero]
          refine wpS_does1 (i := 10) (d := some 106) (rem := [_, _, _, _, _, _, _, _, _, _, _]) (out := [_, _, _, _, _, _, _, _, _, _, _, _]) rfl (by rfl) rfl Try.call13 (gmay_d (rowT elemI _ _) _ x rowT_reads lx) rfl HM622.out [1] rfl (covS_box 10 rfl (covS_box 9 rfl (covS_box 8 rfl (covS_box 6 rfl covS_nil)))) rfl rfl ?_
          rintro W624 hm623 hg625
          rw [hmx.out]
          have HM626 := Lib.hid hm623
          clear hm623
          simp only [Act.put, List.setIfInBounds_toArray, List.set_cons_succ, List.set_cons_zero]
          refine wpS_this [11, 12] rfl (by kernel_rfl) (by simp only [pickL, nthL, List.cons_append, List.nil_append]; rfl) ?_
          repeat (go_big_quiet_step (fail))
          refine wpQuiet_nil ?_
          refine wpS_loadA (i := 13) (d := some 109) (cells := rgC (a) (.slice pa a.p.2.2.length ca)) rfl (by rfl) rfl rfl (HM626.out.sub 11 rfl (fun k u h => by rw [Nat.zero_add]; exact h)) Try.underlying30 rfl (by kernel_rfl) rfl ?_
          simp only [Act.put, List.setIfInBounds_toArray, List.set_cons_succ, List.set_cons_zero]
          refine wpS_loadA (i := 14) (d := some 110) (cells := rgC (b) (.slice pb b.p.2.2.length cb)) rfl (by rfl) rfl rfl (HM626.out.sub 10 rfl (fun k u h => by rw [Nat.zero_add]; exact h)) Try.underlying30 rfl (by kernel_rfl) rfl ?_
          simp only [Act.put, List.setIfInBounds_toArray, List.set_cons_succ, List.set_cons_zero]
          refine wpS_loadA2 (i := 16) (d := some 112) (cells := rgC (a) (.slice pa a.p.2.2.length ca)) rfl (by rfl) rfl rfl (by simp) (HM626.out.sub 11 rfl (fun k u h => by rw [Nat.zero_add]; exact h)) Try.underlying30 rfl (by kernel_rfl) rfl ?_
          simp only [Act.put, List.setIfInBounds_toArray, List.set_cons_succ, List.set_cons_zero]
          refine wpS_loadA2 (i := 17) (d := some 113) (cells := rgC (b) (.slice pb b.p.2.2.length cb)) rfl (by rfl) rfl rfl (by simp) (HM626.out.sub 10 rfl (fun k u h => by rw [Nat.zero_add]; exact h)) Try.underlying30 rfl (by kernel_rfl) rfl ?_
          simp only [Act.put, List.setIfInBounds_toArray, List.set_cons_succ, List.set_cons_zero]
          refine wpS_does2 (i := 15) (d := some 111) (rem := [_, _, _, _, _, _, _, _, _, _, _]) (out := [_, _, _, _, _, _, _, _, _, _, _, _]) rfl (by rfl) rfl Try.call11 (gsame_d (oldT W0) _ a (srcOld ha) la _ b (srcOld hb) lb) rfl rfl HM626.out [1] rfl (covS_box 10 rfl (covS_box 9 rfl (covS_box 8 rfl (covS_box 6 rfl covS_nil)))) rfl rfl ?_
          rintro W628 hm627 hg629
          rw [hs.out]
          have HM630 := Lib.hid hm627
          clear hm627
          simp only [Act.put, List.setIfInBounds_toArray, List.set_cons_succ, List.set_cons_zero]
          refine wpS_does2 (i := 18) (d := some 114) (rem := [_, _, _, _, _, _, _, _, _, _, _]) (out := [_, _, _, _, _, _, _, _, _, _, _, _]) rfl (by rfl) rfl Try.call14 (rsame_d (oldT W0) _ a (srcOld ha) la _ b (srcOld hb) lb) rfl rfl HM630.out [0] rfl (covS_box 10 rfl (covS_box 9 rfl (covS_box 8 rfl (covS_box 6 rfl covS_nil)))) rfl rfl ?_
          rintro W632 hm631 hg633
          rw [hs.out]
          have HM634 := Lib.hid hm631
          clear hm631
          simp only [Act.put, List.setIfInBounds_toArray, List.set_cons_succ, List.set_cons_zero]
          refine wpS_this [19, 20, 21] rfl (by kernel_rfl) (by simp only [pickL, nthL, List.cons_append, List.nil_append]; rfl) ?_
          repeat (go_big_quiet_step (fail))
          refine wpQuiet_nil ?_
          refine wpS_does0 (i := 22) (d := some 118) (rem := [_, _, _, _, _, _, _, _, _, _, _, _]) (out := [_, _, _, _, _, _, _, _, _, _, _, _]) rfl (by rfl) rfl Try.call9 (gawake_d)  HM634.out [] rfl (covS_box 11 rfl (covS_box 10 rfl (covS_box 9 rfl (covS_box 7 rfl covS_nil)))) rfl rfl ?_
          rintro W636 hm635 hg637
          have HM638 := Lib.hid hm635
          clear hm635
          simp only [Act.put, List.setIfInBounds_toArray, List.set_cons_succ, List.set_cons_zero]
          refine wpS_this [23, 24] rfl (by kernel_rfl) (by simp only [pickL, nthL, List.cons_append, List.nil_append]; rfl) ?_
          repeat (go_big_quiet_step (fail))
          refine wpQuiet_nil ?_
          refine wpS_nil ?_
          refine then_normal ?_
          refine wp_ret ?_
          refine bodyPost_ret (results_tmp rfl _ _ _) rfl ?_
          exact does_ret (Mem.only (M := [_]) HM638.out [0] rfl) rfl rfl
  · clear hw
    obtain ⟨z, hz'⟩ := int_letter (hvy 0 [⟨a, pa, a.p.2.2.length, ca⟩, ⟨b, pb, b.p.2.2.length, cb⟩, ⟨c, pc, c.p.2.2.length, cc⟩])
    replace hfw : 0 < hvy 0 [⟨a, pa, a.p.2.2.length, ca⟩, ⟨b, pb, b.p.2.2.length, cb⟩, ⟨c, pc, c.p.2.2.length, cc⟩] := hfw
    rw [hz'] at hfw
    have gz : decide (0 < z) = true := decide_eq_true hfw
    clear hfw
    have hfw := Lib.hid hz'
    clear hz'
    refine wp_region_N [(0, 1), (1, 1), (2, 1), (3, 3), (4, 3), (5, 1)] (by kernel_rfl) ?_
    refine wpS_loadA (i := 0) (d := some 8) (cells := rgC (a) (.slice pa a.p.2.2.length ca)) rfl (by rfl) rfl rfl (HM12.out.sub 2 rfl (fun k u h => by rw [Nat.zero_add]; exact h)) Try.underlying30 rfl (by kernel_rfl) rfl ?_
    simp only [Act.put, List.setIfInBounds_toArray, List.set_cons_succ, List.set_cons_zero]
    refine wpS_loadA (i := 1) (d := some 9) (cells := rgC (b) (.slice pb b.p.2.2.length cb)) rfl (by rfl) rfl rfl (HM12.out.sub 1 rfl (fun k u h => by rw [Nat.zero_add]; exact h)) Try.underlying30 rfl (by kernel_rfl) rfl ?_
    simp only [Act.put, List.setIfInBounds_toArray, List.set_cons_succ, List.set_cons_zero]
    refine wpS_loadA (i := 2) (d := some 10) (cells := rgC (c) (.slice pc c.p.2.2.length cc)) rfl (by rfl) rfl rfl (HM12.out.sub 0 rfl (fun k u h => by rw [Nat.zero_add]; exact h)) Try.underlying30 rfl (by kernel_rfl) rfl ?_
    simp only [Act.put, List.setIfInBounds_toArray, List.set_cons_succ, List.set_cons_zero]
    refine wpS_buildN elemR (i := 3) (dd := 11) (n := 3) (xs := [⟨a, pa, a.p.2.2.length, ca⟩, ⟨b, pb, b.p.2.2.length, cb⟩, ⟨c, pc, c.p.2.2.length, cc⟩]) (cs := (rgC a (.slice pa a.p.2.2.length ca) ++ (rgC b (.slice pb b.p.2.2.length cb) ++ (rgC c (.slice pc c.p.2.2.length cc) ++ []))).toArray) rfl (by rfl) (fun _ => by kernel_rfl) rfl rfl HM12.out covS_nil rfl ?_
    rintro b641 W642 hm643 -
    have HM644 := Lib.hid hm643
    clear hm643
    simp only [Act.put, List.setIfInBounds_toArray, List.set_cons_succ, List.set_cons_zero]
    refine wpS_does1 (i := 4) (d := some 12) (rem := [_, _, _, _]) (out := [_, _, _, _, _]) rfl (by rfl) rfl Try.call8 (heavy_d (rowT elemR _ _) _ _ rowOwnE (Nat.le_of_ble_eq_true rfl)) rfl HM644.out [0] rfl covS_nil rfl rfl ?_
    rintro W646 hm645 -
    rw [hfw.out]
    have HM647 := Lib.hid hm645
    clear hm645
    simp only [Act.put, List.setIfInBounds_toArray, List.set_cons_succ, List.set_cons_zero]
    refine wpS_this [5] rfl (by kernel_rfl) (by simp only [pickL, nthL, List.cons_append, List.nil_append]; rfl) ?_
    repeat (go_big_quiet_step (fail))
    refine wpQuiet_nil ?_
    refine wpS_nil ?_
    refine then_normal ?_
    refine wp_cond_true rfl ?_
    refine wp_seq ?_
    refine wp_region_N [(0, 3), (1, 1)] (by kernel_rfl) ?_
    refine wpS_does0 (i := 0) (d := some 14) (rem := [_, _, _, _, _]) (out := [_, _, _, _, _]) rfl (by rfl) rfl Try.call9 (gawake_d)  HM647.out [] rfl covS_nil rfl rfl ?_
    rintro W649 hm648 -
    have HM650 := Lib.hid hm648
    clear hm648
    simp only [Act.put, List.setIfInBounds_toArray, List.set_cons_succ, List.set_cons_zero]
    refine wpS_this [1] rfl (by kernel_rfl) (by simp only [pickL, nthL, List.cons_append, List.nil_append]; rfl) ?_
    repeat (go_big_quiet_step (fail))
    refine wpQuiet_nil ?_
    refine wpS_nil ?_
    refine then_normal ?_
    refine wp_ret ?_
    refine then_ret ?_
    refine bodyPost_ret (results_tmp rfl _ _ _) rfl ?_
    exact does_ret (Mem.only (M := [_]) HM650.out [4] rfl) rfl rfl

end Go.Proofs.Ytihhopoplcelfaa
